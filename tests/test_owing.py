"""What is owed, in sacks and in pence, and what was paid before: points 2, 3, 40, 41."""

import itertools
import unittest

from tests.common import (
    GREATEST, NO_BOOKS, SAMPLE, TURNS, Case, claims_by_words, given_by_words, put, some_books,
)
from woolyears.errors import NoBook, NoYear
from woolyears.giving import gifts_in
from woolyears.owing import owed_by, paid_before, pence_owed, sums_by

MANY = some_books(40, 110) + some_books(41, 20, 20, 30)
BY_YEAR = (owed_by, sums_by, pence_owed)

# Sold on from year 1: what is owed of year 0 stays with holder 5.
SOLD = (
    ((0, 1, 0), (0, 3, 0), (0, 0, 2)),
    ((5, 1, 0, 2, 6, 7), (5, 2, 2, 2, 3, 1000000)),
    ((0, 5, 1, 2, 1), (0, 5, 0, 1, 1), (0, 1, 0, 2, 2)),
)


def over_years(asked, book):
    return [asked(book, year) for year in range(len(book[0]))]


class Owed(Case):
    def test_short_even_and_rich_years(self):
        first = [(0, 0, 0, 3), (0, 1, 1, 1), (0, 2, 2, 3)]
        second = first + [(1, 0, 0, 1), (1, 1, 1, 1), (1, 3, 3, 1)]
        third = [(0, 1, 1, 1), (1, 0, 0, 1), (1, 1, 1, 1)]
        self.assertEqual(over_years(owed_by, TURNS), [first, second, third])

    def test_sold_on(self):
        first = [(0, 0, 5, 5)]
        # Three sacks by the claims 1 of holder 0, 2 of holder 1, 3 of holder 5: 1/2, 1, 3/2.
        second = first + [(1, 0, 1, 1), (1, 0, 5, 2)]
        third = second + [(2, 0, 0, 3), (2, 0, 5, 3), (2, 1, 5, 1)]
        self.assertEqual(over_years(owed_by, SOLD), [first, second, third])

    def test_nothing_owed(self):
        book = (((3, 0, 0), (2, 0, 0)), ((0, 0, 0, 1, 2, 1),), ())
        self.assertEqual(over_years(owed_by, book), [[], []])

    def test_one_sack_short(self):
        book = (((1, 0, 9), (3, 0, 0)), ((0, 0, 0, 1, 2, 1),), ())
        self.assertEqual(over_years(owed_by, book), [[(0, 0, 0, 1)], []])

    def test_later_years_are_not_owed_as_yet(self):
        book = (((0, 0, 0),) * 3, ((0, 0, 1, 19, 2, 1), (1, 2, 3, 19, 5, 1)), ())
        self.assertEqual(over_years(owed_by, book), [[], [(1, 0, 0, 2)], [(1, 0, 0, 2), (2, 0, 0, 2)]])

    def test_rising_through_all_sorts(self):
        promises = ((0, 2, 0, 1, 1, 1), (0, 1, 0, 1, 2, 1), (0, 0, 0, 1, 3, 1), (0, 1, 0, 1, 4, 1))
        book = (((0, 0, 0), (0, 0, 0)), promises, ())
        first = [(0, 0, 0, 1), (0, 1, 0, 2), (0, 2, 0, 3), (0, 3, 0, 4)]
        self.assertEqual(over_years(owed_by, book), [first, first + [(1, *row[1:]) for row in first]])


class Sums(Case):
    def test_short_even_and_rich_years(self):
        none = [(0, 0, 0)] * 4
        wanted = [
            [(6, 3, 3), (2, 1, 1), (3, 0, 3), (0, 0, 0)] + none,
            [(12, 8, 4), (4, 2, 2), (6, 3, 3), (4, 3, 1)] + none,
            [(18, 17, 1), (4, 2, 2), (9, 9, 0), (8, 8, 0)] + none,
        ]
        self.assertEqual(over_years(sums_by, TURNS), wanted)

    def test_sold_on(self):
        none = [(0, 0, 0)]
        wanted = [
            none * 5 + [(6, 1, 5)] + none * 2,
            [(1, 1, 0), (2, 1, 1)] + none * 3 + [(9, 2, 7)] + none * 2,
            [(4, 1, 3), (2, 1, 1)] + none * 3 + [(15, 4, 11)] + none * 2,
        ]
        self.assertEqual(over_years(sums_by, SOLD), wanted)

    def test_sums_of_several_promises_of_one_holder(self):
        book = (((5, 0, 0),), ((7, 0, 0, 0, 2, 1), (7, 1, 0, 0, 9, 1), (7, 2, 0, 3, 4, 1)), ())
        self.assertEqual(sums_by(book, 0), [(0, 0, 0)] * 7 + [(15, 5, 10)])

    def test_without_promises(self):
        self.assertEqual(over_years(sums_by, (((1, 2, 3),) * 20, (), ())), [[(0, 0, 0)] * 8] * 20)


class Pence(Case):
    def test_at_unlike_prices(self):
        wanted = [
            [30, 20, 90, 0, 0, 0, 0, 0],
            [40, 40, 90, 40, 0, 0, 0, 0],
            [10, 40, 0, 0, 0, 0, 0, 0],
        ]
        self.assertEqual(over_years(pence_owed, TURNS), wanted)

    def test_sold_on_at_its_promises_price(self):
        wanted = [
            [0, 0, 0, 0, 0, 35, 0, 0],
            [0, 7, 0, 0, 0, 49, 0, 0],
            [21, 7, 0, 0, 0, 70 + 1000000, 0, 0],
        ]
        self.assertEqual(over_years(pence_owed, SOLD), wanted)

    def test_a_price_of_nothing(self):
        book = (((0, 0, 0),), ((0, 0, 0, 0, 9, 0), (1, 0, 0, 0, 9, 1)), ())
        self.assertEqual(pence_owed(book, 0), [0, 9, 0, 0, 0, 0, 0, 0])

    def test_the_most_that_can_be_owed(self):
        book = (((0, 0, 0),) * 20, ((6, 0, 0, 19, 99, 1000000),) * 10, ())
        self.assertEqual(pence_owed(book, 19), [0] * 6 + [20 * 10 * 99 * 1000000, 0])
        self.assertEqual(pence_owed(book, 0), [0] * 6 + [10 * 99 * 1000000, 0])


class Paid(Case):
    def test_all_years_of_all_promises(self):
        self.assertEqual(paid_before(TURNS), [180, 80, 270, 320, 0, 0, 0, 0])

    def test_he_paid_who_had_it_at_first(self):
        self.assertEqual(paid_before(SOLD), [0, 0, 0, 0, 0, 3 * 6 * 7 + 3 * 1000000, 0, 0])
        whole = (((1, 1, 1),), ((2, 0, 0, 4, 3, 5),), ((0, 2, 7, 3, 0),))
        self.assertEqual(paid_before(whole), [0, 0, 75, 0, 0, 0, 0, 0])

    def test_years_behind_all_clips_too(self):
        book = (((1, 1, 1),), ((0, 0, 0, 19, 2, 3), (1, 1, 19, 19, 5, 7), (0, 2, 4, 4, 1, 1)), ())
        self.assertEqual(paid_before(book), [121, 35, 0, 0, 0, 0, 0, 0])

    def test_whatever_the_wool(self):
        for wool in (0, 1, 999):
            self.assertEqual(paid_before(put(TURNS, 0, ((wool, wool, wool),))), paid_before(TURNS))

    def test_without_promises(self):
        self.assertEqual(paid_before((((0, 0, 0),), (), ())), [0] * 8)

    def test_the_most(self):
        book = (((0, 0, 0),), ((7, 0, 0, 19, 99, 1000000),) * 10, ((9, 7, 0, 1, 19),) * 12)
        self.assertEqual(paid_before(book), [0] * 7 + [20 * 10 * 99 * 1000000])

    def test_by_the_words(self):
        for book in MANY:
            wanted = [0] * 8
            for holder, _, first, last, sacks, price in book[1]:
                for _ in range(first, last + 1):
                    wanted[holder] += sacks * price
            self.assertEqual(paid_before(book), wanted)


class Reckoned(Case):
    """Point 3, over many books."""

    def test_owed_by_the_words(self):
        for book in MANY:
            self.assertEqual(over_years(owed_by, book), [owed for gifts, owed, left in given_by_words(*book)], book)

    def test_pence_by_the_words(self):
        for book in MANY:
            for year, (gifts, owed, left) in enumerate(given_by_words(*book)):
                wanted = [sum(row[3] * book[1][row[1]][5] for row in owed if row[2] == holder) for holder in range(8)]
                self.assertEqual(pence_owed(book, year), wanted, (book, year))

    def test_what_was_due_is_what_was_given_and_what_is_owed(self):
        for book in MANY:
            due, given = [0] * 8, [0] * 8
            for year, sums in enumerate(over_years(sums_by, book)):
                for claim, sacks in claims_by_words(*book[1:], year).items():
                    due[claim[2]] += sacks
                for row in gifts_in(book, year):
                    given[row[2]] += row[3]
                owed = [sum(row[3] for row in owed_by(book, year) if row[2] == holder) for holder in range(8)]
                self.assertEqual(sums, list(zip(due, given, owed)), (book, year))
                for one, other, rest in sums:
                    self.assertEqual(one, other + rest, (book, year))

    def test_what_is_owed_is_what_was_owed_and_due_less_what_was_given(self):
        for book in MANY:
            before = {}
            for year, owed in enumerate(over_years(owed_by, book)):
                before.update(claims_by_words(*book[1:], year))
                for row in gifts_in(book, year):
                    before[row[:3]] -= row[3]
                wanted = sorted((*claim, sacks) for claim, sacks in before.items() if sacks)
                self.assertEqual(owed, wanted, (book, year))


class Edges(Case):
    def test_without_promises(self):
        book = (((1, 2, 3),), (), ())
        self.assertEqual((owed_by(book, 0), pence_owed(book, 0)), ([], [0] * 8))

    def test_promises_behind_all_clips(self):
        book = (((0, 0, 0),), ((0, 0, 1, 19, 9, 5), (1, 2, 19, 19, 9, 5)), ((0, 0, 2, 9, 1),))
        self.assertEqual(owed_by(book, 0), [])
        self.assertEqual(sums_by(book, 0), [(0, 0, 0)] * 8)
        self.assertEqual(pence_owed(book, 0), [0] * 8)
        self.assertEqual(paid_before(book), [19 * 9 * 5, 45, 0, 0, 0, 0, 0, 0])

    def test_the_greatest_book_is_told_soon(self):
        wanted = given_by_words(*GREATEST)
        for year in (0, 19):
            self.assertEqual(self.soon(owed_by, GREATEST, year), wanted[year][1])
            sums = self.soon(sums_by, GREATEST, year)
            self.assertEqual(sum(row[2] for row in sums), sum(row[3] for row in wanted[year][1]))
            self.assertEqual(sum(row[0] for row in sums), 990 * (year + 1))
            self.assertEqual(self.soon(pence_owed, GREATEST, year), [row[2] * 1000000 for row in sums])
        self.assertEqual(sum(self.soon(paid_before, GREATEST)), 20 * 990 * 1000000)

    def test_kinds(self):
        for book, year in itertools.product((SAMPLE, TURNS, SOLD), range(3)):
            for asked in (owed_by, sums_by):
                told = asked(book, year)
                self.assertIs(type(told), list)
                self.assertEqual({type(row) for row in told}, {tuple})
                self.assertEqual({type(number) for row in told for number in row}, {int})
            for told in (pence_owed(book, year), paid_before(book)):
                self.assertIs(type(told), list)
                self.assertEqual([type(number) for number in told], [int] * 8)
            self.assertEqual([len(row) for row in sums_by(book, year)], [3] * 8)


class Refused(Case):
    def test_what_is_no_book(self):
        for asked in BY_YEAR:
            self.refuses_books(asked, 0)
        self.refuses_books(paid_before)

    def test_what_is_no_year_of_the_clips(self):
        for asked in BY_YEAR:
            self.refuses_years(asked)

    def test_the_first_year_and_the_last(self):
        for many in (1, 2, 19, 20):
            book = (((1, 2, 3),) * many, (), ())
            for year in (0, many - 1):
                self.assertEqual(owed_by(book, year), [])
                self.assertEqual(sums_by(book, year), [(0, 0, 0)] * 8)
                self.assertEqual(pence_owed(book, year), [0] * 8)
            for asked in BY_YEAR:
                self.refused(NoYear, asked, book, many)
                self.refused(NoYear, asked, book, -1)

    def test_the_book_is_looked_at_first(self):
        for asked, year in itertools.product(BY_YEAR, (None, True, -1, 3, 20, [0], (0,))):
            for thing in (None, list(SAMPLE), put(SAMPLE, 0, ()), SAMPLE[:2], 0):
                self.refused(NoBook, asked, thing, year)


class Own(Case):
    """Point 2."""

    def test_a_list_told_is_the_askers_own(self):
        for book in (SAMPLE, TURNS, SOLD, (((0, 0, 0),) * 3, (), ())):
            for asked, year in itertools.product(BY_YEAR, range(3)):
                self.own_list(asked, book, year)
            self.own_list(paid_before, book)

    def test_nothing_handed_in_is_changed(self):
        for thing in NO_BOOKS:
            kept = repr(thing)
            for asked in BY_YEAR:
                self.refused(NoBook, asked, thing, 0)
            self.refused(NoBook, paid_before, thing)
            self.assertEqual(repr(thing), kept)

    def test_two_books_by_turns(self):
        for asked in BY_YEAR:
            first, other = over_years(asked, TURNS), over_years(asked, SOLD)
            for year in (2, 0, 1):
                self.assertEqual(asked(TURNS, year), first[year])
                self.assertEqual(asked(SOLD, year), other[year])
        first, other = paid_before(TURNS), paid_before(SOLD)
        self.assertNotEqual(first, other)
        self.assertEqual((paid_before(TURNS), paid_before(SOLD)), (first, other))

    def test_the_same_behind_a_refusal(self):
        for asked in BY_YEAR:
            wanted = over_years(asked, SAMPLE)
            self.refused(NoYear, asked, SAMPLE, 3)
            self.refused(NoBook, asked, None, 0)
            self.assertEqual(over_years(asked, SAMPLE), wanted)


if __name__ == "__main__":
    unittest.main()
