"""Clips that grow, by which year all is met, which promise is one too many: points 2, 60, 61."""

import itertools
import unittest
from fractions import Fraction

from tests.common import (
    GREATEST, HUGE, NO_BOOKS, NO_CLIPS, SAMPLE, Case, given_by_words, no_whole_from, put, some_books,
)
from woolyears.books import are_clips, first_unheld
from woolyears.errors import NoBook, NoClips, NoGrowth, NoNumber
from woolyears.growth import grown_to, met_by, too_many

CLIPS = ((3, 0, 12), (4, 150, 9))
MANY = some_books(60, 60, 5, 40)

# One sack a year, due a hundred in two years: all is met by year 99 just so.
HUNDRED = (((1, 0, 0),), ((0, 0, 0, 1, 50, 1),), ())


def grown_by_words(clips, growth, years):
    rows = [list(clip) for clip in clips]
    for _ in range(years - len(clips)):
        rows.append([int(sacks * Fraction(100 + growth, 100)) for sacks in rows[-1]])
    return tuple(tuple(row) for row in rows)


def met_by_words(book, growth):
    clips, promises, sales = book
    grown = grown_by_words(clips, growth, 100)
    for year, (gifts, owed, left) in enumerate(given_by_words(grown, promises, sales)):
        if year >= len(clips) - 1 and owed == [] and all(promise[3] <= year for promise in promises):
            return year
    return None


def too_many_by_words(book, growth):
    clips, promises, sales = book
    for number in range(len(promises)):
        fewer = tuple(sale for sale in sales if sale[0] <= number)
        if met_by_words((clips, promises[:number + 1], fewer), growth) is None:
            return number
    return None


class Grown(Case):
    def test_more_each_year(self):
        wanted = CLIPS + ((6, 225, 13), (9, 337, 19), (13, 505, 28))
        self.assertEqual(grown_to(CLIPS, 50, 5), wanted)

    def test_fewer_each_year(self):
        wanted = CLIPS + ((3, 135, 8), (2, 121, 7), (1, 108, 6), (0, 97, 5))
        self.assertEqual(grown_to(CLIPS, -10, 6), wanted)

    def test_left_as_they_are(self):
        self.assertEqual(grown_to(CLIPS, 0, 100), CLIPS + CLIPS[1:] * 98)

    def test_growths_of_one(self):
        clips = ((99, 100, 199),)
        self.assertEqual(grown_to(clips, 1, 3), clips + ((99, 101, 200), (99, 102, 202)))
        self.assertEqual(grown_to(clips, -1, 3), clips + ((98, 99, 197), (97, 98, 195)))
        self.assertEqual(grown_to(((1, 2, 0),), -1, 3), ((1, 2, 0), (0, 1, 0), (0, 0, 0)))

    def test_growths_of_a_hundred(self):
        self.assertEqual(grown_to(CLIPS, 100, 4), CLIPS + ((8, 300, 18), (16, 600, 36)))
        self.assertEqual(grown_to(CLIPS, -100, 4), CLIPS + ((0, 0, 0), (0, 0, 0)))
        self.assertEqual(grown_to(((1, 0, 999),), 100, 100)[99], (2**99, 0, 999 * 2**99))

    def test_beyond_what_a_clip_may_have(self):
        self.assertEqual(grown_to(((999, 999, 999),), 1, 2), ((999, 999, 999), (1008, 1008, 1008)))

    def test_by_the_last_of_the_clips_alone(self):
        clips = ((500, 500, 500), (1, 1, 1), (10, 20, 30))
        self.assertEqual(grown_to(clips, 10, 4), clips + ((11, 22, 33),))

    def test_as_many_years_as_the_clips_have(self):
        for many in (1, 2, 19, 20):
            clips = ((7, 8, 9),) * many
            for growth in (-100, 0, 100):
                self.assertEqual(grown_to(clips, growth, many), clips)

    def test_by_the_words(self):
        for growth in range(-100, 101):
            self.assertEqual(grown_to(CLIPS, growth, 9), grown_by_words(CLIPS, growth, 9), growth)

    def test_each_number_of_years(self):
        whole = grown_to(CLIPS, 7, 100)
        self.assertEqual(len(whole), 100)
        for years in range(2, 101):
            self.assertEqual(grown_to(CLIPS, 7, years), whole[:years])

    def test_what_was_told_may_be_handed_in_again(self):
        told = grown_to(CLIPS, 7, 20)
        self.assertIs(are_clips(told), True)
        self.assertEqual(grown_to(told, 7, 100), grown_to(CLIPS, 7, 100))
        self.refused(NoClips, grown_to, grown_to(CLIPS, 7, 21), 7, 100)

    def test_kinds(self):
        told = self.soon(grown_to, GREATEST[0], 100, 100)
        self.assertIs(type(told), tuple)
        self.assertEqual({(type(clip), len(clip)) for clip in told}, {(tuple, 3)})
        self.assertEqual({type(sacks) for clip in told for sacks in clip}, {int})


class Met(Case):
    def test_by_a_later_year(self):
        # Four a year, due six in each of the years 0 to 2: six are owed behind year 2, two behind year 3.
        book = (((4, 0, 0),), ((0, 0, 0, 2, 6, 1),), ())
        self.assertEqual(met_by(book, 0), 4)
        # 4, 5, 6, 7: owed are 2, 3, 3, then none.
        self.assertEqual(met_by(book, 25), 3)
        # 4, 8, 16.
        self.assertEqual(met_by(book, 100), 2)

    def test_by_the_last_year_of_the_clips_just_so(self):
        book = (((0, 0, 0), (3, 0, 0), (5, 0, 0)), ((0, 0, 0, 1, 4, 1),), ())
        for growth in (-100, 0, 100):
            self.assertEqual(met_by(book, growth), 2)
        short = put(book, 0, ((0, 0, 0), (3, 0, 0), (4, 0, 0)))
        self.assertEqual([met_by(short, growth) for growth in (-100, -76, -75, 0, 100)], [None, None, 3, 3, 3])

    def test_no_less_than_the_last_year_of_the_clips(self):
        book = (((9, 9, 9),) * 6, ((0, 0, 0, 1, 4, 1),), ())
        self.assertEqual(met_by(book, 0), 5)

    def test_no_promise_has_a_later_year(self):
        book = (((9, 9, 9),), ((0, 0, 0, 0, 4, 1), (1, 1, 7, 7, 1, 1)), ())
        self.assertEqual(met_by(book, 0), 7)
        book = (((9, 9, 9),), ((1, 1, 7, 19, 1, 1), (0, 0, 0, 0, 4, 1)), ())
        self.assertEqual(met_by(book, 0), 19)

    def test_by_no_year(self):
        book = (((3, 0, 0),), ((0, 0, 0, 1, 2, 1),), ())
        self.assertEqual([met_by(book, growth) for growth in (-100, -67, -34, -33, 0)], [None, None, None, 1, 1])
        worse = (((0, 99, 99),), ((0, 0, 0, 0, 1, 1),), ())
        self.assertEqual([met_by(worse, growth) for growth in (-100, 0, 100)], [None] * 3)

    def test_by_the_last_year_of_a_hundred_just_so(self):
        self.assertEqual(met_by(HUNDRED, 0), 99)
        self.assertIsNone(met_by((HUNDRED[0], HUNDRED[1] + ((1, 0, 0, 0, 1, 1),), ()), 0))
        fewer = (HUNDRED[0], ((0, 0, 0, 0, 50, 1), (0, 0, 1, 1, 49, 1)), ())
        self.assertEqual(met_by(fewer, 0), 98)

    def test_better_wool_that_comes_down(self):
        book = (((2, 0, 0),), ((0, 2, 0, 0, 5, 1), (1, 1, 1, 1, 1, 1)), ())
        self.assertEqual(met_by(book, 0), 2)

    def test_without_promises(self):
        for many, growth in itertools.product((1, 2, 19, 20), (-100, 0, 100)):
            for wool in (0, 9):
                self.assertEqual(met_by((((wool,) * 3,) * many, (), ()), growth), many - 1)

    def test_growth_goes_on_from_the_last_clip(self):
        # 1, 10, then 20, 40: by year 3 they come to 71.
        book = (((1, 0, 0), (10, 0, 0)), ((0, 0, 0, 0, 71, 1),), ())
        self.assertEqual(met_by(book, 100), 3)
        self.assertEqual(met_by(put(book, 1, ((0, 0, 0, 0, 72, 1),)), 100), 4)


class OneTooMany(Case):
    def test_the_first(self):
        promises = ((0, 0, 0, 1, 51, 1), (1, 0, 0, 0, 1, 1))
        self.assertEqual(too_many((HUNDRED[0], promises, ()), 0), 0)

    def test_one_between(self):
        promises = ((0, 0, 0, 0, 40, 1), (1, 0, 0, 0, 60, 1), (2, 0, 5, 5, 1, 1), (3, 0, 0, 0, 1, 1))
        self.assertEqual(too_many((HUNDRED[0], promises, ()), 0), 2)

    def test_the_last(self):
        promises = ((0, 0, 0, 1, 50, 1), (1, 0, 0, 0, 1, 1))
        self.assertEqual(too_many((HUNDRED[0], promises, ()), 0), 1)
        promises = tuple((number % 8, 0, number, number, 11, 1) for number in range(10))
        self.assertEqual(too_many((HUNDRED[0], promises, ()), 0), 9)

    def test_none_where_all_is_met(self):
        self.assertIsNone(too_many(HUNDRED, 0))
        promises = tuple((number % 8, 0, number, number, 10, 1) for number in range(10))
        self.assertIsNone(too_many((HUNDRED[0], promises, ()), 0))

    def test_without_promises(self):
        for growth in (-100, 0, 100):
            self.assertIsNone(too_many((((0, 0, 0),), (), ()), growth))

    def test_another_one_at_another_growth(self):
        book = (((5, 0, 0),), ((0, 0, 0, 0, 5, 1), (1, 0, 1, 1, 2, 1), (2, 0, 0, 0, 9, 1)), ())
        self.assertEqual([too_many(book, growth) for growth in (-100, -60, -50, 0, 100)], [1, 2, 2, None, None])

    def test_of_a_worse_sort_though_better_wool_is_there(self):
        book = (((9, 0, 9),), ((0, 2, 0, 3, 9, 1), (1, 1, 0, 0, 9, 1), (2, 1, 19, 19, 9, 1)), ())
        self.assertIsNone(too_many(book, 0))
        self.assertEqual(too_many(put(book, 0, ((0, 0, 9),)), 0), 1)

    def test_sales_of_these_alone(self):
        # Ahead of them stand sales of later promises, and one is sold on and back.
        promises = ((0, 0, 0, 0, 50, 1), (1, 0, 0, 1, 25, 1), (2, 0, 0, 0, 1, 1), (3, 1, 4, 9, 9, 1))
        sales = ((3, 3, 0, 9, 4), (2, 2, 5, 1, 0), (0, 0, 1, 50, 0), (3, 0, 3, 9, 5), (0, 1, 0, 7, 0), (1, 1, 2, 3, 1))
        self.assertIsNone(first_unheld(promises, sales))
        self.assertEqual(too_many((HUNDRED[0], promises, sales), 0), 2)
        self.assertEqual(too_many((((0, 9, 9),), promises, sales), 0), 0)


class Reckoned(Case):
    def test_by_the_words(self):
        met, many = set(), set()
        for book, growth in itertools.product(MANY, (-100, -20, 0, 3)):
            wanted = met_by_words(book, growth)
            self.assertEqual(met_by(book, growth), wanted, (book, growth))
            met.add(wanted)
            wanted = too_many_by_words(book, growth)
            self.assertEqual(too_many(book, growth), wanted, (book, growth))
            many.add(wanted)
        self.assertGreater(len(met), 12)
        self.assertGreater(len(many), 7)

    def test_one_is_too_many_just_where_all_is_not_met(self):
        for book, growth in itertools.product(MANY, (-50, -5, 1, 100)):
            self.assertEqual(met_by(book, growth) is None, too_many(book, growth) is not None, (book, growth))

    def test_the_greatest_book_is_told_soon(self):
        for growth in (-100, 0, 10, 100):
            self.assertEqual(self.soon(met_by, GREATEST, growth), met_by_words(GREATEST, growth))
            self.assertEqual(self.soon(too_many, GREATEST, growth), too_many_by_words(GREATEST, growth))
        rich = put(GREATEST, 0, ((5, 5, 5),) * 20)
        for growth in (0, 2):
            self.soon(met_by, rich, growth)
            self.soon(too_many, rich, growth)

    def test_kinds(self):
        self.assertIs(type(met_by(HUNDRED, 0)), int)
        self.assertIs(type(too_many(put(HUNDRED, 1, HUNDRED[1] * 2), 0)), int)


class Refused(Case):
    def test_what_is_no_clips(self):
        for thing in NO_CLIPS:
            self.refused(NoClips, grown_to, thing, 0, 20)

    def test_what_is_no_book(self):
        for asked in (met_by, too_many):
            self.refuses_books(asked, 0)

    def test_what_is_no_growth(self):
        for growth in no_whole_from(-100, 100):
            self.refused(NoGrowth, grown_to, CLIPS, growth, 20)
            for asked in (met_by, too_many):
                self.refused(NoGrowth, asked, SAMPLE, growth)
                self.refused(NoGrowth, asked, (CLIPS, (), ()), growth)

    def test_the_least_growth_and_the_most(self):
        for growth in (-100, -99, 99, 100):
            self.assertEqual(grown_to(CLIPS, growth, 2), CLIPS)
            self.assertEqual(met_by((CLIPS, (), ()), growth), 1)
            self.assertIsNone(too_many((CLIPS, (), ()), growth))

    def test_what_is_no_number_of_years(self):
        for many in (1, 2, 20):
            clips = CLIPS[:1] * many
            for years in no_whole_from(many, 100) + [0]:
                self.refused(NoNumber, grown_to, clips, 0, years)
            self.assertEqual(len(grown_to(clips, 0, many)), many)
            self.assertEqual(len(grown_to(clips, 0, 100)), 100)

    def test_in_order(self):
        for years in (None, True, 1, 101, HUGE):
            for growth in (None, True, -101, 101, HUGE):
                for clips in (None, (), list(CLIPS), CLIPS[0], CLIPS * 11):
                    self.refused(NoClips, grown_to, clips, growth, years)
                    self.refused(NoClips, grown_to, clips, 0, years)
                    self.refused(NoClips, grown_to, clips, growth, 50)
                self.refused(NoGrowth, grown_to, CLIPS, growth, years)
            self.refused(NoNumber, grown_to, CLIPS, 0, years)
        for asked, growth in itertools.product((met_by, too_many), (None, True, -101, 101, HUGE)):
            for thing in (None, list(SAMPLE), put(SAMPLE, 0, ()), SAMPLE[:2], 0):
                self.refused(NoBook, asked, thing, growth)


class Own(Case):
    """Point 2."""

    def test_nothing_handed_in_is_changed(self):
        for thing in NO_BOOKS:
            kept = repr(thing)
            self.refused(NoBook, met_by, thing, 0)
            self.refused(NoBook, too_many, thing, 0)
            self.assertEqual(repr(thing), kept)
        clips = [[3, 0, 12], [4, 1, 9]]
        self.refused(NoClips, grown_to, clips, 0, 4)
        self.assertEqual(clips, [[3, 0, 12], [4, 1, 9]])

    def test_by_turns_and_again(self):
        books = [SAMPLE, HUNDRED, GREATEST] + MANY[:6]
        wanted = [(met_by(book, 0), too_many(book, 0), grown_to(book[0], 9, 30)) for book in books]
        self.refused(NoGrowth, met_by, SAMPLE, 101)
        self.refused(NoNumber, grown_to, CLIPS, 0, 101)
        told = [(met_by(book, 0), too_many(book, 0), grown_to(book[0], 9, 30)) for book in books]
        self.assertEqual(told, wanted)


if __name__ == "__main__":
    unittest.main()
