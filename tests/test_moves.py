"""What moves by a late promise: points 2, 3, 70."""

import itertools
import unittest

from tests.common import (
    GREATEST, HUGE, NO_BOOKS, SAMPLE, STRANGE, TURNS, Case, Dice, given_by_words, put, resized, some_books,
    some_promises, spoiled,
)
from woolyears.books import is_book
from woolyears.errors import NoBook, NoPromise
from woolyears.giving import gifts_in
from woolyears.moves import moved_by

FEWER = [book for book in some_books(70, 90) + some_books(71, 12, 20, 30) if len(book[1]) < 10]

PROMISE = (4, 1, 0, 3, 5, 60)
BEYOND = (
    put(PROMISE, 0, -1), put(PROMISE, 0, 8), put(PROMISE, 1, -1), put(PROMISE, 1, 3), put(PROMISE, 2, -1),
    put(PROMISE, 2, 4), put(PROMISE, 3, 20), (4, 1, 20, 20, 5, 60), put(PROMISE, 4, 0), put(PROMISE, 4, 100),
    put(PROMISE, 5, -1), put(PROMISE, 5, 1000001), put(PROMISE, 4, HUGE), put(PROMISE, 5, -HUGE),
)
NO_PROMISES = list(STRANGE) + spoiled(PROMISE) + resized(PROMISE) + list(BEYOND) + [(PROMISE,), (PROMISE, PROMISE)]
FULL = (((9, 9, 9), (0, 0, 0)), ((0, 0, 0, 1, 1, 1),) * 10, ((3, 0, 1, 1, 0),))


def moved_by_words(book, promise):
    clips, promises, sales = book
    before = given_by_words(clips, promises, sales)
    after = given_by_words(clips, promises + (promise,), sales)
    moves = []
    for year in range(len(clips)):
        old = {row[:3]: row[3] for row in before[year][0]}
        new = {row[:3]: row[3] for row in after[year][0]}
        for claim in {**old, **new}:
            if old.get(claim) != new.get(claim):
                moves.append((year, *claim, old.get(claim, 0), new.get(claim, 0)))
    return sorted(moves)


class Moved(Case):
    def test_gifts_of_its_own_sort_of_several_years(self):
        # Six of sort 1 a year go to one alone, then by halves to two.
        book = (((0, 6, 0), (0, 6, 0), (0, 6, 0)), ((2, 1, 0, 2, 6, 1),), ())
        wanted = [(1, 1, 0, 2, 6, 3), (1, 1, 1, 5, 0, 3), (2, 2, 0, 2, 6, 3), (2, 2, 1, 5, 0, 3)]
        self.assertEqual(moved_by(book, (5, 1, 1, 2, 6, 9)), wanted)

    def test_gifts_of_lesser_sorts(self):
        book = (((4, 0, 0),), ((0, 1, 0, 0, 2, 1), (1, 2, 0, 0, 2, 1)), ())
        self.assertEqual(moved_by(book, (2, 0, 0, 0, 1, 1)), [(0, 0, 1, 1, 2, 1), (0, 0, 2, 2, 0, 1)])
        self.assertEqual(moved_by(book, (2, 0, 0, 0, 2, 1)), [(0, 0, 1, 1, 2, 0), (0, 0, 2, 2, 0, 2)])
        wanted = [(0, 0, 0, 0, 2, 1), (0, 0, 1, 1, 2, 0), (0, 0, 2, 2, 0, 3)]
        self.assertEqual(moved_by(book, (2, 0, 0, 0, 3, 1)), wanted)
        self.assertEqual(moved_by(book, (2, 1, 0, 0, 2, 1)), [(0, 0, 1, 1, 2, 0), (0, 0, 2, 2, 0, 2)])
        self.assertEqual(moved_by(book, (2, 2, 0, 0, 2, 1)), [(0, 0, 1, 1, 2, 1), (0, 0, 2, 2, 0, 1)])

    def test_a_gift_that_comes_later(self):
        # What was given in year 0 is made good in year 1, and what was made good then in year 2.
        book = (((2, 0, 0), (2, 0, 0), (4, 0, 0)), ((0, 0, 0, 0, 2, 1), (1, 0, 1, 1, 1, 1)), ())
        wanted = [
            (0, 0, 0, 0, 2, 1), (0, 0, 2, 3, 0, 1),
            (1, 0, 0, 0, 0, 1),
            (2, 0, 2, 3, 0, 1),
        ]
        self.assertEqual(moved_by(book, (3, 0, 0, 0, 2, 1)), wanted)

    def test_new_gifts_alone(self):
        book = (((9, 0, 0), (9, 0, 0)), ((0, 0, 0, 1, 3, 1),), ())
        self.assertEqual(moved_by(book, (0, 2, 0, 1, 6, 1)), [(0, 0, 1, 0, 0, 6), (1, 1, 1, 0, 0, 6)])

    def test_gifts_through_a_sale(self):
        book = (((5, 0, 0),), ((0, 0, 0, 0, 5, 1),), ((0, 0, 1, 2, 0),))
        wanted = [(0, 0, 0, 0, 3, 2), (0, 0, 0, 1, 2, 1), (0, 0, 1, 2, 0, 2)]
        self.assertEqual(moved_by(book, (2, 0, 0, 0, 5, 1)), wanted)

    def test_nothing_where_no_wool_serves_it(self):
        book = (((0, 5, 5), (0, 5, 5)), ((0, 1, 0, 1, 3, 1),), ())
        self.assertEqual(moved_by(book, (1, 0, 0, 1, 9, 1)), [])

    def test_nothing_where_its_share_is_none(self):
        book = (((1, 0, 0),), ((0, 0, 0, 0, 99, 1),), ())
        self.assertEqual(moved_by(book, (1, 0, 0, 0, 1, 1)), [])

    def test_nothing_where_its_years_lie_behind_all_clips(self):
        for many in (1, 2, 3):
            book = put(TURNS, 0, TURNS[0][:many])
            for first, last in ((many, many), (many, 19), (19, 19)):
                self.assertEqual(moved_by(book, (0, 0, first, last, 99, 1)), [])
            self.assertNotEqual(moved_by(book, (0, 0, many - 1, 19, 99, 1)), [])

    def test_the_last_year_of_twenty(self):
        book = (((1, 0, 0),) * 20, (), ())
        self.assertEqual(moved_by(book, (0, 2, 19, 19, 1, 0)), [(19, 19, 0, 0, 0, 1)])

    def test_behind_nine_others(self):
        book = (((9, 9, 9),), ((0, 0, 0, 0, 1, 1),) * 9, ())
        self.assertEqual(moved_by(book, (1, 0, 0, 0, 9, 1)), moved_by_words(book, (1, 0, 0, 0, 9, 1)))
        self.assertEqual(moved_by(book, (1, 1, 0, 0, 9, 1)), [(0, 0, 9, 1, 0, 9)])

    def test_the_price_moves_nothing(self):
        self.assertEqual(moved_by(SAMPLE, (1, 0, 0, 2, 4, 0)), moved_by(SAMPLE, (1, 0, 0, 2, 4, 1000000)))

    def test_by_the_words(self):
        dice, seen, gone = Dice(72), 0, 0
        for book in FEWER:
            for promise in some_promises(dice, 4, len(book[0]), 30):
                wanted = moved_by_words(book, promise)
                told = moved_by(book, promise)
                self.assertEqual(told, wanted, (book, promise))
                seen += len({row[0] for row in told}) > 1
                gone += any(row[5] == 0 for row in told)
        self.assertGreater(seen, 40)
        self.assertGreater(gone, 20)

    def test_nothing_of_a_year_ahead_and_nothing_of_a_better_sort(self):
        """Point 3."""
        dice, moved = Dice(73), 0
        for book in FEWER:
            for promise in some_promises(dice, 6, len(book[0]), 99):
                late = book[1] + (promise,)
                for year, due, number, holder, before, after in moved_by(book, promise):
                    self.assertGreaterEqual(year, promise[2], (book, promise))
                    self.assertGreaterEqual(late[number][1], promise[1], (book, promise))
                    moved += number < len(book[1])
        self.assertGreater(moved, 300)

    def test_what_moves_leads_from_the_gifts_ahead_to_those_behind(self):
        for book in FEWER[:40]:
            promise = (2, 0, 0, 19, 5, 1)
            late = put(book, 1, book[1] + (promise,))
            self.assertIs(is_book(late), True)
            moves = moved_by(book, promise)
            self.assertEqual(moves, sorted(set(moves)))
            for year in range(len(book[0])):
                gifts = {row[:3]: row[3] for row in gifts_in(book, year)}
                for _, due, number, holder, before, after in [row for row in moves if row[0] == year]:
                    self.assertNotEqual(before, after)
                    self.assertEqual(gifts.pop((due, number, holder), 0), before)
                    gifts[due, number, holder] = after
                told = sorted((*claim, sacks) for claim, sacks in gifts.items() if sacks)
                self.assertEqual(told, gifts_in(late, year))

    def test_kinds(self):
        told = moved_by(TURNS, (0, 0, 0, 2, 9, 1))
        self.assertIs(type(told), list)
        self.assertEqual({(type(row), len(row)) for row in told}, {(tuple, 6)})
        self.assertEqual({type(number) for row in told for number in row}, {int})

    def test_the_greatest_book_is_told_soon(self):
        book = put(GREATEST, 1, GREATEST[1][:9])
        book = put(book, 2, tuple((at % 9, at % 9 % 8, (at + 3 + at // 9) % 8, 20 + at, at) for at in range(12)))
        self.assertIs(is_book(book), True)
        rich = put(book, 0, ((150, 150, 150), (700, 300, 500)) * 10)
        for thing in (book, rich):
            promise = (3, 0, 0, 19, 99, 1)
            self.assertEqual(self.soon(moved_by, thing, promise), moved_by_words(thing, promise))


class Refused(Case):
    def test_what_is_no_book(self):
        self.refuses_books(moved_by, PROMISE)

    def test_what_is_no_promise(self):
        for thing in NO_PROMISES:
            self.refused(NoPromise, moved_by, SAMPLE, thing)

    def test_the_least_and_the_most_of_each_part(self):
        book = (((9, 9, 9),), (), ())
        for promise in ((0, 0, 0, 0, 1, 0), (7, 2, 0, 19, 99, 1000000), (7, 2, 0, 0, 99, 0)):
            sacks = min(promise[4], 9 * promise[1] + 9)
            self.assertEqual(moved_by(book, promise), [(0, 0, 0, promise[0], 0, sacks)])
        self.assertEqual(moved_by(book, (0, 0, 19, 19, 1, 0)), [])

    def test_one_more_than_ten(self):
        for promise in (PROMISE, (0, 0, 19, 19, 1, 1)):
            self.one_more_refused(11, 10, moved_by, FULL, promise)
            self.one_more_refused(11, 10, moved_by, GREATEST, promise)
        nine = put(FULL, 1, FULL[1][:9])
        self.assertEqual(moved_by(nine, PROMISE), [(0, 0, 9, 4, 0, 5)])

    def test_in_order(self):
        for promise in (None, True, list(PROMISE), PROMISE[:5], put(PROMISE, 4, 0)):
            for thing in (None, list(FULL), put(FULL, 0, ()), put(FULL, 1, FULL[1] * 2), FULL[:2], 0):
                self.refused(NoBook, moved_by, thing, promise)
                self.refused(NoBook, moved_by, thing, PROMISE)
            self.refused(NoPromise, moved_by, FULL, promise)


class Own(Case):
    """Point 2."""

    def test_a_list_told_is_the_askers_own(self):
        for book, first in itertools.product((SAMPLE, TURNS), (0, 1, 2, 3)):
            self.own_list(moved_by, book, (0, 0, first, 3, 2, 1))
        self.own_list(moved_by, (((9, 9, 9),), (), ()), PROMISE)

    def test_nothing_handed_in_is_changed(self):
        for thing in NO_BOOKS:
            kept = repr(thing)
            self.refused(NoBook, moved_by, thing, PROMISE)
            self.assertEqual(repr(thing), kept)
        for thing in NO_PROMISES:
            kept = repr(thing)
            self.refused(NoPromise, moved_by, SAMPLE, thing)
            self.assertEqual(repr(thing), kept)

    def test_by_turns_and_again(self):
        asked = [(book, (at % 8, at % 3, 0, 19, 7, 1)) for at, book in enumerate(FEWER[:20])]
        wanted = [moved_by(book, promise) for book, promise in asked]
        self.refused(NoPromise, moved_by, SAMPLE, None)
        self.one_more_refused(11, 10, moved_by, FULL, PROMISE)
        self.assertEqual([moved_by(book, promise) for book, promise in asked], wanted)


if __name__ == "__main__":
    unittest.main()
