"""Sheep that die, and who bears it: points 2, 3, 71."""

import itertools
import unittest
from fractions import Fraction

from tests.common import (
    GREATEST, HUGE, NO_BOOKS, NO_CLIPS, SAMPLE, SOME_CLIPS, Case, given_by_words, no_whole_from, put, some_books,
)
from woolyears.books import are_clips
from woolyears.errors import NoBook, NoClips, NoNumber, NoSort, NoYear
from woolyears.moves import borne_by, lessened
from woolyears.papers import lack_by

MANY = some_books(70, 90) + some_books(71, 12, 20, 30)

# Eleven sacks go 5, 5 and 1 to the three, ten go 4, 4 and 2.
ODD = (((11, 0, 0),), ((3, 0, 0, 0, 6, 1), (5, 0, 0, 0, 6, 1), (7, 0, 0, 0, 2, 1)), ())


def lessened_by_words(clips, year, sort, part):
    rows = [list(clip) for clip in clips]
    for row in rows[year:]:
        row[sort] = int(row[sort] * (1 - Fraction(part, 100)))
    return tuple(tuple(row) for row in rows)


def owed_at_last_by_words(book):
    sums = [0] * 8
    for _, _, holder, sacks in given_by_words(*book)[-1][1]:
        sums[holder] += sacks
    return sums


def borne_by_words(book, year, sort, part):
    less = owed_at_last_by_words(put(book, 0, lessened_by_words(book[0], year, sort, part)))
    return [after - before for before, after in zip(owed_at_last_by_words(book), less)]


class Lessened(Case):
    def test_of_each_sort(self):
        self.assertEqual(lessened(SOME_CLIPS, 0, 0, 50), ((5, 3, 7), (49, 100, 101), (0, 0, 999)))
        self.assertEqual(lessened(SOME_CLIPS, 0, 1, 50), ((10, 1, 7), (99, 50, 101), (1, 0, 999)))
        self.assertEqual(lessened(SOME_CLIPS, 0, 2, 50), ((10, 3, 3), (99, 100, 50), (1, 0, 499)))

    def test_from_each_year_on(self):
        self.assertEqual(lessened(SOME_CLIPS, 0, 2, 10), ((10, 3, 6), (99, 100, 90), (1, 0, 899)))
        self.assertEqual(lessened(SOME_CLIPS, 1, 2, 10), ((10, 3, 7), (99, 100, 90), (1, 0, 899)))
        self.assertEqual(lessened(SOME_CLIPS, 2, 2, 10), ((10, 3, 7), (99, 100, 101), (1, 0, 899)))

    def test_parts_0_and_100_and_those_beside_them(self):
        self.assertEqual(lessened(SOME_CLIPS, 0, 0, 0), SOME_CLIPS)
        self.assertEqual(lessened(SOME_CLIPS, 0, 0, 1), ((9, 3, 7), (98, 100, 101), (0, 0, 999)))
        self.assertEqual(lessened(SOME_CLIPS, 0, 1, 1), ((10, 2, 7), (99, 99, 101), (1, 0, 999)))
        self.assertEqual(lessened(SOME_CLIPS, 0, 1, 99), ((10, 0, 7), (99, 1, 101), (1, 0, 999)))
        self.assertEqual(lessened(SOME_CLIPS, 0, 2, 99), ((10, 3, 0), (99, 100, 1), (1, 0, 9)))
        self.assertEqual(lessened(SOME_CLIPS, 0, 2, 100), ((10, 3, 0), (99, 100, 0), (1, 0, 0)))

    def test_by_the_words(self):
        for year, sort, part in itertools.product(range(3), range(3), range(101)):
            told = lessened(SOME_CLIPS, year, sort, part)
            self.assertEqual(told, lessened_by_words(SOME_CLIPS, year, sort, part), (year, sort, part))
            self.assertIs(are_clips(told), True)

    def test_each_number_by_each_part(self):
        for numbers in range(0, 1000, 60):
            clips = tuple((n % 1000, (n + 20) % 1000, (n + 40) % 1000) for n in range(numbers, numbers + 20))
            for sort, part in itertools.product(range(3), (0, 1, 7, 33, 50, 67, 99, 100)):
                self.assertEqual(lessened(clips, 0, sort, part), lessened_by_words(clips, 0, sort, part))

    def test_one_year_and_twenty(self):
        self.assertEqual(lessened(((8, 8, 8),), 0, 1, 25), ((8, 6, 8),))
        clips = ((8, 8, 8),) * 20
        self.assertEqual(lessened(clips, 19, 0, 25), clips[:19] + ((6, 8, 8),))
        self.assertEqual(lessened(clips, 0, 0, 25), ((6, 8, 8),) * 20)

    def test_what_was_told_may_be_handed_in_again(self):
        self.assertEqual(lessened(lessened(SOME_CLIPS, 1, 0, 50), 2, 2, 10), ((10, 3, 7), (49, 100, 101), (0, 0, 899)))

    def test_kinds(self):
        told = lessened(SOME_CLIPS, 1, 1, 5)
        self.assertEqual({type(clip) for clip in told} | {type(told)}, {tuple})
        self.assertEqual({type(sacks) for clip in told for sacks in clip}, {int})


class Borne(Case):
    def test_more_is_owed_by_share(self):
        book = (((9, 0, 0),), ((0, 0, 0, 0, 6, 1), (7, 0, 0, 0, 3, 1)), ())
        self.assertEqual(borne_by(book, 0, 0, 33), [2, 0, 0, 0, 0, 0, 0, 1])
        self.assertEqual(borne_by(book, 0, 0, 100), [6, 0, 0, 0, 0, 0, 0, 3])
        self.assertEqual(borne_by(book, 0, 0, 0), [0] * 8)

    def test_fewer_to_some(self):
        self.assertEqual(borne_by(ODD, 0, 0, 5), [0, 0, 0, 1, 0, 1, 0, -1])

    def test_by_those_of_a_lesser_sort(self):
        book = (((5, 0, 0), (5, 0, 0)), ((1, 0, 0, 1, 3, 1), (2, 2, 0, 1, 2, 1)), ())
        self.assertEqual(borne_by(book, 1, 0, 40), [0, 0, 2, 0, 0, 0, 0, 0])
        self.assertEqual(borne_by(book, 0, 0, 40), [0, 0, 4, 0, 0, 0, 0, 0])
        self.assertEqual(borne_by(book, 0, 0, 60), [0, 2, 4, 0, 0, 0, 0, 0])

    def test_what_is_made_good_later_is_not_borne(self):
        book = (((4, 0, 0), (0, 4, 0), (0, 9, 0)), ((3, 1, 0, 1, 4, 1),), ())
        self.assertEqual(borne_by(book, 0, 0, 100), [0] * 8)
        self.assertEqual(borne_by(book, 0, 1, 50), [0] * 8)
        self.assertEqual(borne_by(book, 2, 1, 100), [0] * 8)
        self.assertEqual(borne_by(book, 1, 1, 100), [0, 0, 0, 4, 0, 0, 0, 0])

    def test_just_what_is_more_than_before(self):
        book = (((2, 0, 0),), ((6, 0, 0, 0, 9, 1),), ())
        self.assertEqual(borne_by(book, 0, 0, 50), [0, 0, 0, 0, 0, 0, 1, 0])

    def test_wool_that_none_claims(self):
        book = (((4, 9, 9),), ((0, 0, 0, 0, 4, 1), (1, 0, 1, 19, 9, 1)), ())
        for sort in (1, 2):
            self.assertEqual(borne_by(book, 0, sort, 100), [0] * 8)
        self.assertEqual(borne_by((((4, 9, 9),), (), ()), 0, 0, 100), [0] * 8)

    def test_through_a_sale(self):
        book = (((4, 0, 0), (4, 0, 0)), ((0, 0, 0, 1, 4, 1),), ((0, 0, 5, 4, 1),))
        self.assertEqual(borne_by(book, 0, 0, 50), [2, 0, 0, 0, 0, 2, 0, 0])
        self.assertEqual(borne_by(book, 1, 0, 50), [0, 0, 0, 0, 0, 2, 0, 0])

    def test_by_the_words(self):
        more = 0
        for at, book in enumerate(MANY):
            for sort, part in itertools.product(range(3), (7, 50, 100)):
                year = (at + sort) % len(book[0])
                told = borne_by(book, year, sort, part)
                self.assertEqual(told, borne_by_words(book, year, sort, part), (book, year, sort, part))
                self.assertGreaterEqual(sum(told), 0)
                more += max(told) > 0
        self.assertGreater(more, 100)

    def test_one_sack_less_of_one_year(self):
        fewer = 0
        for weights in itertools.product((1, 2, 5, 6), repeat=3):
            promises = tuple((holder, 1, 0, 0, sacks, 1) for holder, sacks in enumerate(weights))
            for sacks in range(1, sum(weights) + 2):
                book = (((0, sacks, 0),), promises, ())
                told = borne_by(book, 0, 1, 1)
                self.assertEqual(told, borne_by_words(book, 0, 1, 1), book)
                self.assertEqual(sum(told), sacks <= sum(weights))
                fewer += min(told) < 0
        self.assertGreater(fewer, 10)

    def test_as_the_lack_tells(self):
        for book in MANY[:40]:
            year, last = len(book[0]) // 2, len(book[0]) - 1
            for sort in range(3):
                poorer = put(book, 0, lessened(book[0], year, sort, 60))
                self.assertEqual(sum(borne_by(book, year, sort, 60)), lack_by(poorer, last) - lack_by(book, last))

    def test_kinds(self):
        told = borne_by(ODD, 0, 0, 5)
        self.assertIs(type(told), list)
        self.assertEqual([type(sacks) for sacks in told], [int] * 8)

    def test_the_greatest_book_is_told_soon(self):
        rich = put(GREATEST, 0, ((500, 250, 150), (700, 300, 500)) * 10)
        for book, sort in itertools.product((GREATEST, rich), range(3)):
            self.assertEqual(self.soon(borne_by, book, 7, sort, 40), borne_by_words(book, 7, sort, 40))


class Wool(Case):
    """Point 3: no giving leaves less owed, so more wool or better wool leaves no more."""

    def test_more_wool_leaves_no_more_owed_and_less_no_less(self):
        fewer, more = 0, 0
        for at, book in enumerate(MANY):
            year, last = at % len(book[0]), len(book[0]) - 1
            for sort in range(3):
                clip = book[0][year]
                for many in (1, 9):
                    richer = put(book[0], year, put(clip, sort, min(999, clip[sort] + many)))
                    poorer = put(book[0], year, put(clip, sort, max(0, clip[sort] - many)))
                    lacks = [lack_by(put(book, 0, clips), last) for clips in (richer, book[0], poorer)]
                    self.assertEqual(lacks, sorted(lacks), (book, year, sort))
                    fewer += lacks[0] < lacks[1]
                    more += lacks[1] < lacks[2]
        self.assertGreater(fewer, 100)
        self.assertGreater(more, 50)

    def test_better_wool_leaves_no_more_owed(self):
        fewer = 0
        for at, book in enumerate(MANY):
            year, last = at % len(book[0]), len(book[0]) - 1
            for worse, better in ((1, 0), (2, 1), (2, 0)):
                clip = book[0][year]
                many = min(clip[worse], 5, 999 - clip[better])
                turned = put(put(clip, worse, clip[worse] - many), better, clip[better] + many)
                lack = lack_by(put(book, 0, put(book[0], year, turned)), last)
                self.assertLessEqual(lack, lack_by(book, last), (book, year, worse, better))
                fewer += lack < lack_by(book, last)
        self.assertGreater(fewer, 10)


class Refused(Case):
    def test_what_is_no_clips(self):
        for thing in NO_CLIPS:
            self.refused(NoClips, lessened, thing, 0, 0, 0)

    def test_what_is_no_book(self):
        self.refuses_books(borne_by, 0, 0, 0)

    def test_what_is_no_year_of_the_clips(self):
        self.refuses_years(borne_by, 0, 0)
        for many in (1, 2, 3, 20):
            clips = SOME_CLIPS[:1] * many
            for year in no_whole_from(0, many - 1):
                self.refused(NoYear, lessened, clips, year, 0, 0)

    def test_the_first_year_and_the_last(self):
        for many in (1, 2, 19, 20):
            clips = ((4, 4, 4),) * many
            for year in (0, many - 1):
                self.assertEqual(lessened(clips, year, 1, 50), ((4, 4, 4),) * year + ((4, 2, 4),) * (many - year))
                self.assertEqual(borne_by((clips, (), ()), year, 1, 50), [0] * 8)
            for year in (-1, many):
                self.refused(NoYear, lessened, clips, year, 1, 50)
                self.refused(NoYear, borne_by, (clips, (), ()), year, 1, 50)

    def test_what_is_no_sort(self):
        for sort in no_whole_from(0, 2):
            self.refused(NoSort, lessened, SOME_CLIPS, 0, sort, 0)
            self.refused(NoSort, borne_by, SAMPLE, 0, sort, 0)

    def test_what_is_no_part(self):
        for part in no_whole_from(0, 100):
            self.refused(NoNumber, lessened, SOME_CLIPS, 0, 0, part)
            self.refused(NoNumber, borne_by, SAMPLE, 0, 0, part)

    def test_the_least_and_the_most(self):
        for sort, part in itertools.product((0, 2), (0, 100)):
            self.assertEqual(lessened(SOME_CLIPS, 0, sort, part), lessened_by_words(SOME_CLIPS, 0, sort, part))
            self.assertEqual(borne_by(SAMPLE, 2, sort, part), borne_by_words(SAMPLE, 2, sort, part))

    def test_in_order(self):
        wrong = (None, True, -1, 101, HUGE, [0])
        for part in (0,) + wrong:
            for sort in (0,) + wrong:
                for year in (0,) + wrong:
                    for thing in (None, (), list(SOME_CLIPS), SOME_CLIPS * 7, SAMPLE):
                        self.refused(NoClips, lessened, thing, year, sort, part)
                    for thing in (None, (), list(SAMPLE), SAMPLE[:2], SOME_CLIPS):
                        self.refused(NoBook, borne_by, thing, year, sort, part)
                for year in wrong:
                    self.refused(NoYear, lessened, SOME_CLIPS, year, sort, part)
                    self.refused(NoYear, borne_by, SAMPLE, year, sort, part)
            for sort in wrong:
                self.refused(NoSort, lessened, SOME_CLIPS, 0, sort, part)
                self.refused(NoSort, borne_by, SAMPLE, 0, sort, part)


class Own(Case):
    """Point 2."""

    def test_a_list_told_is_the_askers_own(self):
        for book in (SAMPLE, ODD, GREATEST):
            self.own_list(borne_by, book, 0, 0, 50)

    def test_nothing_handed_in_is_changed(self):
        for thing in NO_CLIPS:
            kept = repr(thing)
            self.refused(NoClips, lessened, thing, 0, 0, 50)
            self.assertEqual(repr(thing), kept)
        for thing in NO_BOOKS:
            kept = repr(thing)
            self.refused(NoBook, borne_by, thing, 0, 0, 50)
            self.assertEqual(repr(thing), kept)

    def test_by_turns_and_again(self):
        asked = [(book, len(book[0]) // 2, at % 3, 30) for at, book in enumerate(MANY[:20])]
        wanted = [(borne_by(*each), lessened(each[0][0], *each[1:])) for each in asked]
        self.refused(NoSort, borne_by, SAMPLE, 0, 3, 0)
        self.refused(NoNumber, lessened, SOME_CLIPS, 0, 0, 101)
        self.assertEqual([(borne_by(*each), lessened(each[0][0], *each[1:])) for each in asked], wanted)


if __name__ == "__main__":
    unittest.main()
