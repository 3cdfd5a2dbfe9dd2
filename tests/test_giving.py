"""The giving: points 2, 3, 30, 31."""

import itertools
import unittest

from tests.common import (
    GREATEST, NO_BOOKS, SAMPLE, TURNS, Case, claims_by_words, given_by_words, put, some_books,
)
from woolyears.errors import NoBook, NoYear
from woolyears.giving import gifts_in, left_in
from woolyears.parting import is_fair

MANY = some_books(30, 110) + some_books(31, 20, 20, 30)

# Sort 2 is owed three years' sacks to several; better wool comes down to it by turns.
OLDEST = (
    ((0, 0, 0), (0, 0, 0), (0, 0, 1), (0, 7, 0), (3, 0, 0), (2, 2, 9)),
    ((4, 2, 0, 1, 4, 1), (1, 2, 0, 1, 3, 1), (0, 2, 0, 0, 2, 1)),
    ((0, 4, 2, 3, 1), (0, 4, 6, 1, 0)),
)


def told_of(book):
    """Of each year its gifts and what was left."""
    return [(gifts_in(book, year), left_in(book, year)) for year in range(len(book[0]))]


def sacks_of(rows):
    return sum(row[3] for row in rows)


class Given(Case):
    def test_short_even_and_rich_years(self):
        wanted = [
            ([(0, 0, 0, 3), (0, 1, 1, 1)], (0, 0, 2)),
            ([(1, 0, 0, 5), (1, 1, 1, 1), (1, 2, 2, 3), (1, 3, 3, 3)], (0, 0, 0)),
            ([(0, 0, 0, 3), (0, 2, 2, 3), (1, 3, 3, 1), (2, 0, 0, 6), (2, 2, 2, 3), (2, 3, 3, 4)], (0, 0, 3)),
        ]
        self.assertEqual(told_of(TURNS), wanted)

    def test_just_enough_and_one_less(self):
        promises = ((0, 1, 0, 0, 5, 1), (1, 1, 0, 0, 5, 1))
        for wool, wanted in ((10, [(0, 0, 0, 5), (0, 1, 1, 5)]), (9, [(0, 0, 0, 5), (0, 1, 1, 4)])):
            book = (((0, wool, 0),), promises, ())
            self.assertEqual(told_of(book), [(wanted, (0, 0, 0))])
        book = (((0, 11, 0),), promises, ())
        self.assertEqual(told_of(book), [([(0, 0, 0, 5), (0, 1, 1, 5)], (0, 1, 1))])

    def test_a_short_year_is_parted_by_all_claims_of_the_sort(self):
        # Shares of 10 sacks by 3, 5, 6: 2 and 2/14, 3 and 8/14, 4 and 4/14.
        book = (((0, 0, 10),), ((5, 2, 0, 0, 3, 1), (2, 2, 0, 0, 5, 1), (5, 2, 0, 0, 6, 1)), ())
        self.assertEqual(gifts_in(book, 0), [(0, 0, 5, 2), (0, 1, 2, 4), (0, 2, 5, 4)])

    def test_a_claim_parted_among_holders_takes_its_own_shares(self):
        # One promise of 9 by 4, 3, 2 and another of 9: 4 sacks are parted by all four claims at once.
        book = (((4, 0, 0),), ((3, 0, 0, 0, 9, 1), (0, 0, 0, 0, 9, 1)), ((0, 3, 1, 3, 0), (0, 3, 7, 2, 0)))
        # Shares by 3, 4, 2, 9 of 18: 12/18, 16/18, 8/18, 2.
        self.assertEqual(gifts_in(book, 0), [(0, 0, 1, 1), (0, 0, 3, 1), (0, 1, 0, 2)])

    def test_of_equal_rests_the_elder_promise_then_the_lesser_holder(self):
        book = (((1, 0, 0),), ((7, 0, 0, 0, 1, 1), (0, 0, 0, 0, 1, 1)), ())
        self.assertEqual(gifts_in(book, 0), [(0, 0, 7, 1)])
        book = (((1, 0, 0),), ((7, 0, 0, 0, 2, 1),), ((0, 7, 4, 1, 0),))
        self.assertEqual(gifts_in(book, 0), [(0, 0, 4, 1)])

    def test_nothing_is_no_gift(self):
        book = (((0, 0, 0), (1, 0, 0)), ((0, 0, 0, 1, 1, 1), (1, 0, 0, 1, 1, 1)), ())
        self.assertEqual(told_of(book), [([], (0, 0, 0)), ([(1, 0, 0, 1)], (0, 0, 0))])

    def test_rising_through_all_sorts(self):
        book = (((9, 9, 9),), ((0, 2, 0, 0, 1, 1), (0, 1, 0, 0, 2, 1), (0, 0, 0, 0, 3, 1), (0, 1, 0, 0, 4, 1)), ())
        self.assertEqual(gifts_in(book, 0), [(0, 0, 0, 1), (0, 1, 0, 2), (0, 2, 0, 3), (0, 3, 0, 4)])
        self.assertEqual(left_in(book, 0), (6, 9, 17))


class MadeGood(Case):
    def test_oldest_first_then_by_promise_then_by_holder(self):
        # Owed behind year 1: of year 0 promise 0 to 4 and 6, 1 to 1, 2 to 0; of year 1 promise 0 to 2 and 6, 1 to 1.
        wanted = [
            ([], (0, 0, 0)),
            ([], (0, 0, 0)),
            ([(0, 0, 4, 1)], (0, 0, 0)),
            ([(0, 0, 4, 2), (0, 0, 6, 1), (0, 1, 1, 3), (0, 2, 0, 1)], (0, 7, 0)),
            ([(0, 2, 0, 1), (1, 0, 2, 2)], (3, 3, 0)),
            ([(1, 0, 2, 1), (1, 0, 6, 1), (1, 1, 1, 3)], (2, 4, 8)),
        ]
        self.assertEqual(told_of(OLDEST), wanted)

    def test_the_years_own_claims_come_first(self):
        book = (((0, 0, 0), (5, 0, 0), (6, 0, 0)), ((0, 0, 0, 0, 4, 1), (1, 0, 1, 2, 5, 1)), ())
        self.assertEqual(told_of(book)[1:], [([(1, 1, 1, 5)], (0, 0, 0)), ([(0, 0, 0, 1), (2, 1, 1, 5)], (0, 0, 0))])

    def test_not_by_share(self):
        book = (((0, 0, 0), (0, 4, 0)), ((0, 1, 0, 0, 4, 1), (1, 1, 0, 0, 4, 1)), ())
        self.assertEqual(gifts_in(book, 1), [(0, 0, 0, 4)])

    def test_an_older_year_of_a_younger_promise_comes_first(self):
        book = (((0, 0, 0), (0, 0, 0), (3, 0, 0)), ((0, 0, 1, 1, 2, 1), (1, 0, 0, 0, 2, 1)), ())
        self.assertEqual(gifts_in(book, 2), [(0, 1, 1, 2), (1, 0, 0, 1)])

    def test_what_is_owed_is_made_good_once(self):
        book = (((0, 0, 0), (9, 0, 0), (9, 0, 0)), ((0, 0, 0, 0, 4, 1),), ())
        wanted = [([], (0, 0, 0)), ([(0, 0, 0, 4)], (5, 5, 5)), ([], (9, 9, 9))]
        self.assertEqual(told_of(book), wanted)

    def test_what_is_left_over_is_gone(self):
        book = (((9, 9, 9), (0, 0, 0)), ((0, 2, 1, 1, 1, 1),), ())
        self.assertEqual(told_of(book), [([], (9, 18, 27)), ([], (0, 0, 0))])

    def test_what_was_owed_ahead_of_a_sale_stays_with_the_seller(self):
        book = (((0, 0, 0), (5, 0, 0), (4, 0, 0)), ((0, 0, 0, 1, 4, 1),), ((0, 0, 1, 4, 1),))
        self.assertEqual(told_of(book)[1:], [([(0, 0, 0, 1), (1, 0, 1, 4)], (0, 0, 0)), ([(0, 0, 0, 3)], (1, 1, 1))])

    def test_a_promise_begins_in_its_first_year_and_ends_in_its_last(self):
        book = (((3, 0, 0),) * 5, ((6, 0, 1, 3, 2, 1),), ())
        wanted = [([], (3, 3, 3))] + [([(year, 0, 6, 2)], (1, 1, 1)) for year in (1, 2, 3)] + [([], (3, 3, 3))]
        self.assertEqual(told_of(book), wanted)


class Down(Case):
    def test_better_wool_serves_a_lesser_sort(self):
        book = (((5, 0, 0),), ((0, 0, 0, 0, 1, 1), (1, 1, 0, 0, 1, 1), (2, 2, 0, 0, 1, 1)), ())
        self.assertEqual(told_of(book), [([(0, 0, 0, 1), (0, 1, 1, 1), (0, 2, 2, 1)], (4, 3, 2))])

    def test_lesser_wool_never_serves_a_better_sort(self):
        book = (((0, 9, 9), (0, 0, 9)), ((0, 0, 0, 1, 1, 1), (1, 1, 1, 1, 1, 1)), ())
        self.assertEqual(told_of(book), [([], (0, 9, 18)), ([], (0, 0, 9))])

    def test_what_is_owed_of_the_better_sort_comes_ahead_of_the_lesser_sorts_claims(self):
        book = (((0, 0, 0), (3, 0, 0)), ((0, 0, 0, 0, 2, 1), (1, 1, 1, 1, 2, 1)), ())
        self.assertEqual(told_of(book)[1], ([(0, 0, 0, 2), (1, 1, 1, 1)], (1, 0, 0)))

    def test_what_came_down_is_parted_with_the_rest(self):
        book = (((2, 3, 0),), ((0, 1, 0, 0, 6, 1), (1, 1, 0, 0, 4, 1)), ())
        self.assertEqual(told_of(book), [([(0, 0, 0, 3), (0, 1, 1, 2)], (2, 0, 0))])

    def test_what_came_down_makes_good_an_older_lesser_claim(self):
        book = (((0, 0, 0), (2, 0, 1)), ((0, 2, 0, 1, 2, 1), (1, 1, 1, 1, 1, 1)), ())
        self.assertEqual(told_of(book)[1], ([(1, 0, 0, 2), (1, 1, 1, 1)], (2, 1, 0)))
        book = (((0, 0, 0), (3, 0, 1)), ((0, 2, 0, 1, 2, 1), (1, 1, 1, 1, 1, 1)), ())
        self.assertEqual(told_of(book)[1], ([(0, 0, 0, 1), (1, 0, 0, 2), (1, 1, 1, 1)], (3, 2, 0)))


class Edges(Case):
    def test_without_promises(self):
        for many in (1, 2, 20):
            book = (((1, 2, 3),) * many, (), ())
            self.assertEqual(told_of(book), [([], (1, 3, 6))] * many)

    def test_promises_behind_all_clips(self):
        book = (((5, 0, 0), (5, 0, 0)), ((0, 0, 2, 19, 9, 1), (1, 0, 19, 19, 9, 1), (2, 0, 1, 19, 3, 1)), ())
        self.assertEqual(told_of(book), [([], (5, 5, 5)), ([(1, 2, 2, 3)], (2, 2, 2))])

    def test_sales_from_years_behind_all_clips(self):
        book = (((5, 0, 0),), ((0, 0, 0, 19, 5, 1),), ((0, 0, 1, 5, 1), (0, 1, 2, 5, 19)))
        self.assertEqual(told_of(book), [([(0, 0, 0, 5)], (0, 0, 0))])

    def test_the_most_wool_and_none(self):
        promises = ((0, 0, 0, 0, 99, 1),) * 10
        book = (((999, 999, 999),), promises, ())
        self.assertEqual(told_of(book), [([(0, number, 0, 99) for number in range(10)], (9, 1008, 2007))])
        book = (((0, 0, 0),), promises, ())
        self.assertEqual(told_of(book), [([], (0, 0, 0))])

    def test_eight_holders_of_one_promise(self):
        sales = tuple((0, 7, buyer, 1, 0) for buyer in (3, 1, 6, 0, 2, 5, 4))
        book = (((5, 0, 0),), ((7, 0, 0, 0, 8, 1),), sales)
        self.assertEqual(gifts_in(book, 0), [(0, 0, holder, 1) for holder in range(5)])

    def test_the_greatest_book_is_told_soon(self):
        wanted = given_by_words(*GREATEST)
        for year in (0, 10, 19):
            self.assertEqual(self.soon(gifts_in, GREATEST, year), wanted[year][0])
            self.assertEqual(self.soon(left_in, GREATEST, year), wanted[year][2])

    def test_twenty_years_made_good_in_the_last(self):
        book = (((0, 0, 0),) * 19 + ((0, 60, 0),), ((3, 1, 0, 19, 3, 1),), ())
        self.assertEqual(gifts_in(book, 18), [])
        self.assertEqual(gifts_in(book, 19), [(year, 0, 3, 3) for year in range(20)])
        self.assertEqual(left_in(book, 19), (0, 0, 0))

    def test_kinds(self):
        for book, year in ((SAMPLE, 2), (TURNS, 2), (OLDEST, 3)):
            gifts, left = gifts_in(book, year), left_in(book, year)
            self.assertIs(type(gifts), list)
            self.assertIs(type(left), tuple)
            self.assertEqual({type(row) for row in gifts}, {tuple})
            self.assertEqual({type(number) for row in gifts + [left] for number in row}, {int})


class Reckoned(Case):
    """Point 3, over many books."""

    def test_by_the_words(self):
        for book in MANY:
            wanted = [(gifts, left) for gifts, owed, left in given_by_words(*book)]
            self.assertEqual(told_of(book), wanted, book)

    def test_all_small_books(self):
        promises = ((0, 0, 0, 1, 2, 1), (1, 1, 0, 0, 3, 1), (2, 1, 1, 1, 1, 1))
        sales = ((1, 1, 0, 1, 0),)
        for wool in itertools.product((0, 1, 3), (0, 2, 5), (0, 1), (0, 2, 3), (0, 1, 4), (0,)):
            book = ((wool[:3], wool[3:]), promises, sales)
            wanted = [(gifts, left) for gifts, owed, left in given_by_words(*book)]
            self.assertEqual(told_of(book), wanted, book)

    def test_all_wool_is_given_or_left_over(self):
        for book in MANY:
            for year, (gifts, left) in enumerate(told_of(book)):
                self.assertEqual(sum(book[0][year]), sacks_of(gifts) + left[2], (book, year))
                down = 0
                for sort in range(3):
                    of_sort = [row for row in gifts if book[1][row[1]][1] == sort]
                    self.assertEqual(book[0][year][sort] + down, sacks_of(of_sort) + left[sort], (book, year))
                    down = left[sort]

    def test_no_wool_comes_down_while_a_claim_that_it_may_serve_is_owed(self):
        seen = 0
        for book in MANY:
            due = {}
            for year, (gifts, left) in enumerate(told_of(book)):
                due.update(claims_by_words(*book[1:], year))
                for claimed, number, holder, sacks in gifts:
                    due[claimed, number, holder] -= sacks
                for sort in range(3):
                    owed = sum(sacks for claim, sacks in due.items() if book[1][claim[1]][1] == sort)
                    self.assertTrue(left[sort] == 0 or owed == 0, (book, year, sort))
                    seen += left[sort] > 0
                self.assertTrue(all(sacks >= 0 for sacks in due.values()), (book, year))
        self.assertGreater(seen, 100)

    def test_a_short_year_is_borne_by_share(self):
        seen = 0
        for book in MANY:
            for year, (gifts, left) in enumerate(told_of(book)):
                claims = claims_by_words(*book[1:], year)
                given = {row[:3]: row[3] for row in gifts if row[0] == year}
                for sort in range(3):
                    of_sort = [claim for claim in claims if book[1][claim[1]][1] == sort]
                    weights = tuple(claims[claim] for claim in of_sort)
                    got = tuple(given.get(claim, 0) for claim in of_sort)
                    if weights:
                        self.assertTrue(is_fair(sum(got), weights, got), (book, year))
                        seen += sum(got) < sum(weights)
        self.assertGreater(seen, 100)

    def test_a_promise_told_late_moves_nothing_ahead_and_nothing_of_a_better_sort(self):
        moved = 0
        for at, (clips, promises, sales) in enumerate(book for book in MANY if len(book[1]) < 10):
            sort, first = at % 3, at // 3 % len(clips)
            late = (clips, promises + ((at % 8, sort, first, 19, 1 + at % 99, 1),), sales)
            for year in range(len(clips)):
                before, after = gifts_in((clips, promises, sales), year), gifts_in(late, year)
                better = [row for row in before if promises[row[1]][1] < sort]
                self.assertEqual([row for row in after if late[1][row[1]][1] < sort], better)
                self.assertTrue(year >= first or before == after, (late, year))
                moved += before != after
        self.assertGreater(moved, 50)


class Refused(Case):
    def test_what_is_no_book(self):
        for asked in (gifts_in, left_in):
            self.refuses_books(asked, 0)

    def test_what_is_no_year_of_the_clips(self):
        for asked in (gifts_in, left_in):
            self.refuses_years(asked)

    def test_the_first_year_and_the_last(self):
        for many in (1, 2, 19, 20):
            book = (((1, 2, 3),) * many, (), ())
            for year in (0, many - 1):
                self.assertEqual((gifts_in(book, year), left_in(book, year)), ([], (1, 3, 6)))
            for asked in (gifts_in, left_in):
                self.refused(NoYear, asked, book, many)
                self.refused(NoYear, asked, book, -1)

    def test_the_book_is_looked_at_first(self):
        for asked, year in itertools.product((gifts_in, left_in), (None, True, -1, 3, 20, [0], (0,))):
            for thing in (None, list(SAMPLE), put(SAMPLE, 0, ()), SAMPLE[:2], 0):
                self.refused(NoBook, asked, thing, year)


class Own(Case):
    """Point 2."""

    def test_a_list_told_is_the_askers_own(self):
        for book, year in itertools.product((SAMPLE, TURNS, OLDEST), range(3)):
            self.own_list(gifts_in, book, year)

    def test_nothing_handed_in_is_changed(self):
        for thing in NO_BOOKS:
            kept = repr(thing)
            for asked in (gifts_in, left_in):
                self.refused(NoBook, asked, thing, 0)
            self.assertEqual(repr(thing), kept)

    def test_two_books_by_turns(self):
        first, other = told_of(TURNS), told_of(OLDEST)
        for year in (2, 0, 1):
            self.assertEqual((gifts_in(TURNS, year), left_in(TURNS, year)), first[year])
            self.assertEqual((gifts_in(OLDEST, year), left_in(OLDEST, year)), other[year])
        self.assertEqual((told_of(TURNS), told_of(OLDEST)), (first, other))

    def test_the_same_behind_a_refusal(self):
        wanted = told_of(SAMPLE)
        self.refused(NoYear, gifts_in, SAMPLE, 3)
        self.refused(NoBook, left_in, None, 0)
        self.assertEqual(told_of(SAMPLE), wanted)

    def test_longer_clips_change_nothing_of_the_years_ahead(self):
        for book in MANY[:40]:
            for many in range(1, len(book[0])):
                shorter = put(book, 0, book[0][:many])
                self.assertEqual(told_of(shorter), told_of(book)[:many])


if __name__ == "__main__":
    unittest.main()
