"""A keeper, its deeds and what it tells: points 2, 80, 81."""

import itertools
import unittest

from tests.common import (
    GREATEST, HUGE, SAMPLE, STRANGE, TURNS, Case, Dice, deeds_of, no_whole_from, put, resized, some_books, spoiled,
    told_by_words,
)
from woolyears.books import is_book
from woolyears.errors import NoClip, NoDeed, NoPromise, NoSale, NoYear
from woolyears.giving import gifts_in
from woolyears.keeper import Keeper
from woolyears.owing import owed_by
from woolyears.papers import lack_by

MANY = some_books(80, 60) + some_books(81, 6, 20, 30)
NOTHING = ((), (), ())

CLIP = (4, 0, 999)
PROMISE = (0, 1, 2, 5, 9, 60)
SALE = (0, 0, 3, 4, 3)
NO_CLIPS = list(STRANGE) + spoiled(CLIP) + resized(CLIP) + [(CLIP,), (CLIP, CLIP)]
NO_CLIPS.remove((1, 2, 3))
NO_CLIPS += [put(CLIP, at, wrong) for at in range(3) for wrong in (-1, 1000, HUGE, -HUGE)]
NO_PROMISES = list(STRANGE) + spoiled(PROMISE) + resized(PROMISE) + [(PROMISE,)] + [
    put(PROMISE, 0, -1), put(PROMISE, 0, 8), put(PROMISE, 1, -1), put(PROMISE, 1, 3), put(PROMISE, 2, -1),
    put(PROMISE, 2, 6), put(PROMISE, 3, 1), put(PROMISE, 3, 20), put(PROMISE, 4, 0), put(PROMISE, 4, 100),
    put(PROMISE, 5, -1), put(PROMISE, 5, 1000001), put(PROMISE, 5, HUGE), (0, 1, 20, 20, 9, 60),
]
NO_SALES = list(STRANGE) + spoiled(SALE) + resized(SALE) + [(SALE,)] + [
    put(SALE, 0, -1), put(SALE, 0, 1), put(SALE, 0, HUGE), put(SALE, 1, -1), put(SALE, 1, 8), put(SALE, 1, 1),
    put(SALE, 2, -1), put(SALE, 2, 8), put(SALE, 2, 0), put(SALE, 3, 0), put(SALE, 3, -1), put(SALE, 3, 10),
    put(SALE, 3, 100), put(SALE, 4, 1), put(SALE, 4, 6), put(SALE, 4, -1), put(SALE, 4, 20), put(SALE, 4, HUGE),
]


def do(keeper, name, thing):
    return {"shear": keeper.shear, "pledge": keeper.pledge, "sell": keeper.sell}[name](thing)


def told(*books):
    """A keeper that is told the clips, the promises and the sales of each, one book behind the other."""
    keeper = Keeper()
    for book in books:
        for name, rows in zip(("shear", "pledge", "sell"), book):
            for row in rows:
                do(keeper, name, row)
    return keeper


def all_of(keeper):
    """All that a keeper tells."""
    book = keeper.book_now()
    gifts = [keeper.gifts_of(year) for year in range(len(book[0]))]
    return book, gifts, keeper.owed_now(), keeper.lack_now(), keeper.turned()


class Deeds(Case):
    def test_made_with_nothing(self):
        self.assertEqual(all_of(Keeper()), (NOTHING, [], [], 0, None))

    def test_what_there_is_behind_each_deed(self):
        keeper = Keeper()
        self.assertIsNone(keeper.shear((1, 2, 3)))
        self.assertEqual(keeper.book_now(), (((1, 2, 3),), (), ()))
        self.assertEqual(keeper.pledge(PROMISE), 0)
        self.assertEqual(keeper.book_now(), (((1, 2, 3),), (PROMISE,), ()))
        self.assertIsNone(keeper.sell(SALE))
        self.assertEqual(keeper.book_now(), (((1, 2, 3),), (PROMISE,), (SALE,)))
        self.assertEqual(keeper.pledge((1, 2, 0, 0, 1, 1)), 1)
        self.assertIsNone(keeper.shear((0, 0, 0)))
        self.assertIsNone(keeper.sell((1, 1, 0, 1, 0)))
        wanted = (((1, 2, 3), (0, 0, 0)), (PROMISE, (1, 2, 0, 0, 1, 1)), (SALE, (1, 1, 0, 1, 0)))
        self.assertEqual(keeper.book_now(), wanted)

    def test_each_promise_is_told_its_number(self):
        keeper = Keeper()
        numbers = [keeper.pledge((at % 8, at % 3, at, 19, 1, 1)) for at in range(10)]
        self.assertEqual(numbers, list(range(10)))
        self.assertEqual({type(number) for number in numbers}, {int})
        keeper.undo()
        keeper.undo()
        self.assertEqual(keeper.pledge(PROMISE), 8)

    def test_the_least_and_the_most_of_each_part(self):
        for clip in ((0, 0, 0), (999, 999, 999), (0, 999, 0)):
            keeper = Keeper()
            keeper.shear(clip)
            self.assertEqual(keeper.book_now()[0], (clip,))
        for promise in ((0, 0, 0, 0, 1, 0), (7, 2, 19, 19, 99, 1000000), (7, 0, 0, 19, 99, 0)):
            keeper = Keeper()
            self.assertEqual(keeper.pledge(promise), 0)
            self.assertEqual(keeper.book_now()[1], (promise,))
        for sale in ((0, 7, 0, 1, 0), (0, 7, 6, 99, 19), (0, 7, 0, 99, 0)):
            keeper = told(((), ((7, 0, 0, 19, 99, 1),), ()))
            keeper.sell(sale)
            self.assertEqual(keeper.book_now()[2], (sale,))

    def test_a_sale_of_years_that_have_no_clip_as_yet(self):
        keeper = Keeper()
        keeper.pledge((2, 0, 0, 19, 5, 1))
        keeper.sell((0, 2, 3, 5, 1))
        keeper.shear((5, 0, 0))
        keeper.sell((0, 3, 4, 2, 19))
        keeper.shear((5, 0, 0))
        self.assertEqual([keeper.gifts_of(0), keeper.gifts_of(1)], [[(0, 0, 2, 5)], [(1, 0, 3, 5)]])

    def test_a_sale_holds_by_the_sales_ahead(self):
        keeper = told(((), ((2, 0, 3, 6, 5, 1),), ()))
        self.refused(NoSale, keeper.sell, (0, 3, 4, 1, 5))
        keeper.sell((0, 2, 3, 2, 5))
        self.refused(NoSale, keeper.sell, (0, 3, 4, 1, 4))
        self.refused(NoSale, keeper.sell, (0, 2, 4, 4, 3))
        self.refused(NoSale, keeper.sell, (0, 3, 4, 3, 5))
        keeper.sell((0, 2, 4, 3, 3))
        self.refused(NoSale, keeper.sell, (0, 2, 4, 1, 3))
        keeper.sell((0, 3, 4, 2, 5))
        self.refused(NoSale, keeper.sell, (0, 3, 4, 1, 6))
        self.assertEqual(keeper.book_now()[2], ((0, 2, 3, 2, 5), (0, 2, 4, 3, 3), (0, 3, 4, 2, 5)))

    def test_twenty_clips_and_no_more(self):
        keeper = Keeper()
        for year in range(20):
            keeper.shear((year, 0, 0))
        wanted = all_of(keeper)
        self.assertEqual(wanted[0][0], tuple((year, 0, 0) for year in range(20)))
        self.one_more_refused(21, 20, keeper.shear, CLIP)
        for thing in NO_CLIPS:
            self.refused(NoClip, keeper.shear, thing)
        self.assertEqual(all_of(keeper), wanted)
        keeper.undo()
        keeper.shear(CLIP)
        self.one_more_refused(21, 20, keeper.shear, CLIP)
        self.assertEqual(keeper.pledge(PROMISE), 0)

    def test_ten_promises_and_no_more(self):
        keeper = told(((CLIP,), (PROMISE,) * 10, ()))
        wanted = all_of(keeper)
        self.one_more_refused(11, 10, keeper.pledge, PROMISE)
        for thing in NO_PROMISES:
            self.refused(NoPromise, keeper.pledge, thing)
        self.assertEqual(all_of(keeper), wanted)
        keeper.undo()
        self.assertEqual(keeper.pledge(PROMISE), 9)
        self.one_more_refused(11, 10, keeper.pledge, PROMISE)
        keeper.sell((9, 0, 1, 1, 2))
        keeper.shear(CLIP)

    def test_twelve_sales_and_no_more(self):
        sales = tuple((0, at % 2, 1 - at % 2, 9, 2) for at in range(12))
        keeper = told(((CLIP,), (PROMISE,), sales))
        wanted = all_of(keeper)
        self.assertEqual(wanted[0][2], sales)
        self.one_more_refused(13, 12, keeper.sell, sales[0])
        for thing in NO_SALES:
            self.one_more_refused(13, 12, keeper.sell, thing)
        self.assertEqual(all_of(keeper), wanted)
        keeper.undo()
        self.refused(NoSale, keeper.sell, sales[0])
        keeper.sell(sales[11])
        self.one_more_refused(13, 12, keeper.sell, sales[0])
        self.assertEqual(keeper.pledge(PROMISE), 1)
        keeper.shear(CLIP)


class Undone(Case):
    def test_one_by_one(self):
        keeper, books = Keeper(), [NOTHING]
        for name, thing in deeds_of(SAMPLE, Dice(80)):
            do(keeper, name, thing)
            books.append(keeper.book_now())
        self.assertEqual(books.pop(), SAMPLE)
        while books:
            self.assertIsNone(keeper.undo())
            self.assertEqual(all_of(keeper), told_by_words(books[-1], books[-2] if len(books) > 1 else None))
            books.pop()
        self.refused(NoDeed, keeper.undo)
        self.assertEqual(all_of(keeper), (NOTHING, [], [], 0, None))

    def test_what_was_undone_is_not_undone_again(self):
        keeper = Keeper()
        keeper.shear((1, 0, 0))
        keeper.shear((2, 0, 0))
        keeper.undo()
        keeper.shear((3, 0, 0))
        keeper.undo()
        self.assertEqual(keeper.book_now()[0], ((1, 0, 0),))
        keeper.undo()
        self.assertEqual(keeper.book_now(), NOTHING)
        self.refused(NoDeed, keeper.undo)
        keeper.shear((4, 0, 0))
        self.assertEqual(keeper.book_now()[0], ((4, 0, 0),))

    def test_no_deed(self):
        keeper = Keeper()
        self.refused(NoDeed, keeper.undo)
        self.refused(NoDeed, keeper.undo)
        keeper.pledge(PROMISE)
        keeper.undo()
        self.refused(NoDeed, keeper.undo)
        self.assertEqual(keeper.pledge(PROMISE), 0)

    def test_a_refused_deed_is_none(self):
        keeper = told(((CLIP,), (PROMISE,), ()))
        self.refused(NoClip, keeper.shear, None)
        self.refused(NoPromise, keeper.pledge, None)
        self.refused(NoSale, keeper.sell, None)
        keeper.undo()
        self.assertEqual(keeper.book_now(), ((CLIP,), (), ()))
        keeper.undo()
        self.refused(NoDeed, keeper.undo)

    def test_a_promise_undone_with_its_sales_behind_it(self):
        keeper = told(((), (PROMISE,), (SALE,)))
        keeper.undo()
        keeper.sell(put(SALE, 3, 9))
        keeper.undo()
        keeper.undo()
        self.refused(NoSale, keeper.sell, SALE)
        keeper.pledge(put(PROMISE, 0, 3))
        self.refused(NoSale, keeper.sell, SALE)

    def test_all_deeds_of_the_greatest_book(self):
        keeper = told(GREATEST)
        self.assertEqual(keeper.book_now(), GREATEST)
        for _ in range(42):
            keeper.undo()
        self.refused(NoDeed, keeper.undo)
        self.assertEqual(keeper.book_now(), NOTHING)


class Told(Case):
    def test_a_promise_of_years_that_are_gone(self):
        keeper = told((((5, 0, 0), (5, 0, 0)), ((0, 0, 0, 1, 4, 1),), ()))
        keeper.pledge((1, 0, 0, 0, 4, 1))
        self.assertEqual(keeper.gifts_of(0), [(0, 0, 0, 3), (0, 1, 1, 2)])
        self.assertEqual(keeper.gifts_of(1), [(0, 0, 0, 1), (1, 0, 0, 4)])
        self.assertEqual((keeper.owed_now(), keeper.lack_now()), ([(0, 1, 1, 2)], 2))
        keeper.shear((3, 0, 0))
        self.assertEqual(keeper.gifts_of(2), [(0, 1, 1, 2)])
        self.assertEqual((keeper.owed_now(), keeper.lack_now()), ([], 0))

    def test_a_promise_of_later_years(self):
        keeper = told((((5, 0, 0),), ((1, 0, 1, 2, 4, 1),), ()))
        self.assertEqual((keeper.gifts_of(0), keeper.owed_now(), keeper.lack_now()), ([], [], 0))
        keeper.shear((3, 0, 0))
        self.assertEqual((keeper.gifts_of(1), keeper.owed_now()), ([(1, 0, 1, 3)], [(1, 0, 1, 1)]))

    def test_nothing_is_owed_where_there_is_no_year(self):
        keeper = told(((), (PROMISE, (1, 0, 0, 19, 99, 1)), ()))
        self.assertEqual(all_of(keeper)[1:], ([], [], 0, None))
        keeper.shear((0, 0, 0))
        self.assertEqual((keeper.owed_now(), keeper.lack_now()), ([(0, 1, 1, 99)], 99))
        keeper.undo()
        self.assertEqual((keeper.owed_now(), keeper.lack_now()), ([], 0))

    def test_owed_is_what_is_owed_behind_the_last_year(self):
        keeper, owed = told(((), TURNS[1], ())), []
        for clip in TURNS[0]:
            keeper.shear(clip)
            owed.append((keeper.owed_now(), keeper.lack_now()))
        self.assertEqual(owed[0], ([(0, 0, 0, 3), (0, 1, 1, 1), (0, 2, 2, 3)], 7))
        wanted = [(owed_by(TURNS, year), lack_by(TURNS, year)) for year in range(3)]
        self.assertEqual(owed, wanted)

    def test_what_is_no_year_of_its_clips(self):
        keeper = Keeper()
        keeper.pledge((0, 0, 0, 19, 1, 1))
        for many in range(4):
            for year in no_whole_from(0, many - 1):
                self.refused(NoYear, keeper.gifts_of, year)
            for year in range(many):
                self.assertEqual(keeper.gifts_of(year), [(year, 0, 0, 1)])
            keeper.shear((1, 0, 0))
        keeper.undo()
        self.refused(NoYear, keeper.gifts_of, 3)

    def test_the_last_year_of_twenty(self):
        keeper = told((((1, 0, 0),) * 20, ((0, 2, 19, 19, 1, 1),), ()))
        self.assertEqual((keeper.gifts_of(19), keeper.gifts_of(18)), ([(19, 0, 0, 1)], []))
        self.refused(NoYear, keeper.gifts_of, 20)

    def test_kinds(self):
        keeper = told(put(TURNS, 0, TURNS[0][:2]))
        book, gifts, owed, lack, turned = all_of(keeper)
        self.assertEqual((type(book), [type(part) for part in book]), (tuple, [tuple] * 3))
        self.assertEqual((type(gifts[0]), type(owed), type(lack), type(turned)), (list, list, int, int))
        self.assertEqual({type(row) for row in gifts[0] + owed}, {tuple})
        self.assertEqual({type(number) for row in gifts[0] + owed for number in row}, {int})


class Turned(Case):
    def test_by_a_clip(self):
        keeper = told(((), ((0, 0, 1, 2, 3, 1),), ()))
        keeper.shear((9, 9, 9))
        self.assertIsNone(keeper.turned())
        keeper.shear((0, 9, 9))
        self.assertIsNone(keeper.turned())
        keeper.shear((1, 0, 0))
        self.assertEqual(keeper.turned(), 2)
        keeper.shear((9, 0, 0))
        self.assertEqual(keeper.turned(), 3)
        keeper.shear((9, 0, 0))
        self.assertIsNone(keeper.turned())

    def test_by_the_first_clip(self):
        keeper = told((((1, 0, 0),), (), ()))
        self.assertIsNone(keeper.turned())
        keeper = told(((), ((0, 0, 0, 0, 3, 1),), ()), (((1, 0, 0),), (), ()))
        self.assertEqual(keeper.turned(), 0)
        self.assertIs(type(keeper.turned()), int)

    def test_by_a_promise(self):
        clips = ((3, 0, 0),) * 4
        for first, last in itertools.product(range(6), repeat=2):
            if first <= last:
                keeper = told((clips, ((0, 0, first, last, 1, 1),), ()))
                self.assertEqual(keeper.turned(), first if first < 4 else None)

    def test_by_a_promise_that_is_served_later(self):
        keeper = told((((0, 9, 9), (0, 9, 9), (1, 0, 0)), ((0, 0, 0, 0, 1, 1),), ()))
        self.assertEqual(keeper.turned(), 2)

    def test_by_a_promise_that_nothing_serves(self):
        keeper = told((((0, 9, 9), (0, 9, 9)), ((0, 0, 0, 1, 1, 1),), ()))
        self.assertIsNone(keeper.turned())

    def test_by_a_sale(self):
        book = (((3, 0, 0),) * 4, ((0, 0, 0, 9, 3, 1),), ())
        for year in range(10):
            keeper = told(book)
            keeper.sell((0, 0, 1, 2, year))
            self.assertEqual(keeper.turned(), year if year < 4 else None)

    def test_by_a_sale_of_what_is_made_good_later(self):
        keeper = told((((0, 0, 0), (0, 0, 0), (4, 0, 0)), ((0, 0, 0, 1, 3, 1),), ((0, 0, 1, 3, 1),)))
        self.assertEqual(keeper.turned(), 2)

    def test_where_no_clip_is(self):
        keeper = told(((), (PROMISE,), ()))
        self.assertIsNone(keeper.turned())
        keeper.sell(SALE)
        self.assertIsNone(keeper.turned())

    def test_by_the_last_deed_that_stands(self):
        keeper = told((((3, 0, 0),) * 3, ((0, 0, 1, 2, 3, 1),), ((0, 0, 1, 1, 2),)))
        self.assertEqual(keeper.turned(), 2)
        keeper.undo()
        self.assertEqual(keeper.turned(), 1)
        keeper.undo()
        self.assertIsNone(keeper.turned())
        keeper.pledge((4, 1, 0, 0, 3, 1))
        self.assertEqual(keeper.turned(), 0)
        self.refused(NoPromise, keeper.pledge, None)
        self.assertEqual(keeper.turned(), 0)

    def test_a_clip_that_stands_behind_one_undone(self):
        keeper = told(((), ((0, 0, 0, 9, 3, 1),), ()), (((3, 0, 0), (3, 0, 0)), (), ()))
        keeper.pledge((1, 0, 0, 9, 3, 1))
        self.assertEqual(keeper.turned(), 0)
        keeper.undo()
        self.assertEqual(keeper.turned(), 1)


class Reckoned(Case):
    def test_by_the_words_behind_each_deed(self):
        dice, kinds = Dice(82), set()
        for book in MANY:
            keeper, before = Keeper(), None
            for name, thing in deeds_of(book, dice):
                before = keeper.book_now()
                do(keeper, name, thing)
                wanted = told_by_words(keeper.book_now(), before)
                self.assertEqual(all_of(keeper), wanted, (before, name, thing))
                kinds.add((name, wanted[4]))
            self.assertEqual(keeper.book_now(), book)
        for name in ("shear", "pledge", "sell"):
            self.assertLessEqual({(name, year) for year in (None, 0, 1, 2, 3)}, kinds)

    def test_as_the_functions_tell_in_whatever_order(self):
        for seed, book in itertools.product(range(4), MANY[:40]):
            keeper = Keeper()
            for name, thing in deeds_of(book, Dice(seed)):
                do(keeper, name, thing)
            years, last = range(len(book[0])), len(book[0]) - 1
            self.assertEqual(keeper.book_now(), book)
            self.assertEqual([keeper.gifts_of(year) for year in years], [gifts_in(book, year) for year in years])
            self.assertEqual((keeper.owed_now(), keeper.lack_now()), (owed_by(book, last), lack_by(book, last)))

    def test_behind_deeds_undone_as_if_they_had_never_been(self):
        dice, undone = Dice(83), 0
        for book, other in zip(MANY[:40], MANY[1:41]):
            keeper, plain = Keeper(), Keeper()
            for name, thing in deeds_of(book, dice):
                some = [deed for deed in deeds_of(other, dice) if deed[0] != "sell"][:dice.below(4)]
                done = 0
                for late, what in some:
                    now = keeper.book_now()
                    if len(now[0]) < 20 and len(now[1]) < 10:
                        do(keeper, late, what)
                        done += 1
                for _ in range(done):
                    keeper.undo()
                do(keeper, name, thing)
                do(plain, name, thing)
                self.assertEqual(all_of(keeper), all_of(plain))
                undone += done
            for _ in range(sum(len(part) for part in book)):
                keeper.undo()
            self.refused(NoDeed, keeper.undo)
        self.assertGreater(undone, 100)

    def test_the_greatest_book_is_told_soon(self):
        rich = put(GREATEST, 0, ((500, 250, 150), (700, 300, 500)) * 10)
        for book in (GREATEST, rich):
            keeper = self.soon(told, book)
            before = put(book, 2, book[2][:11])
            self.assertEqual(self.soon(all_of, keeper), told_by_words(book, before))


class Refused(Case):
    def setUp(self):
        self.keeper = told((((1, 2, 3), (0, 5, 0), (9, 9, 9)), (PROMISE,), ()))
        self.wanted = all_of(self.keeper)

    def tearDown(self):
        self.assertEqual(all_of(self.keeper), self.wanted)
        self.keeper.sell(SALE)
        self.assertEqual(self.keeper.pledge(PROMISE), 1)

    def test_what_is_no_clip(self):
        for thing in NO_CLIPS:
            kept = repr(thing)
            self.refused(NoClip, self.keeper.shear, thing)
            self.assertEqual(repr(thing), kept)

    def test_what_is_no_promise(self):
        for thing in NO_PROMISES:
            kept = repr(thing)
            self.refused(NoPromise, self.keeper.pledge, thing)
            self.assertEqual(repr(thing), kept)

    def test_what_is_no_sale(self):
        for thing in NO_SALES:
            kept = repr(thing)
            self.refused(NoSale, self.keeper.sell, thing)
            self.assertEqual(repr(thing), kept)

    def test_what_is_no_year(self):
        for year in no_whole_from(0, 2):
            self.refused(NoYear, self.keeper.gifts_of, year)


class Own(Case):
    """Point 2."""

    def test_a_list_told_is_the_askers_own(self):
        keeper = told(put(TURNS, 0, TURNS[0][:2]))
        for year in (0, 1):
            self.own_list(keeper.gifts_of, year)
        self.own_list(keeper.owed_now)
        self.own_list(Keeper().owed_now)
        self.own_list(told((((0, 0, 0),), (), ())).owed_now)
        self.own_list(told((((0, 0, 0),), (), ())).gifts_of, 0)

    def test_nothing_hangs_on_a_list_that_is_changed(self):
        keeper = told(put(TURNS, 0, TURNS[0][:2]))
        wanted = all_of(keeper)
        for rows in (keeper.gifts_of(0), keeper.gifts_of(1), keeper.owed_now()):
            rows.reverse()
            rows.append((0, 0, 0, 99))
        self.assertEqual(all_of(keeper), wanted)
        keeper.shear(TURNS[0][2])
        self.assertEqual(all_of(keeper), told_by_words(TURNS, put(TURNS, 0, TURNS[0][:2])))

    def test_nothing_hangs_on_what_was_handed_in(self):
        keeper = told(SAMPLE)
        wanted = all_of(keeper)
        deeds = ((keeper.shear, NoClip, CLIP), (keeper.pledge, NoPromise, PROMISE), (keeper.sell, NoSale, SALE))
        for asked, kind, row in deeds:
            handed = list(row)
            self.refused(kind, asked, handed)
            handed.append(0)
            handed[0] = 1
            self.assertEqual(all_of(keeper), wanted)

    def test_what_was_told_earlier_stays_as_it_was(self):
        keeper = told((((1, 0, 0),), ((0, 0, 0, 9, 3, 1),), ()))
        book, gifts, owed, lack, turned = all_of(keeper)
        keeper.shear((9, 9, 9))
        keeper.pledge(PROMISE)
        keeper.undo()
        wanted = ((((1, 0, 0),), ((0, 0, 0, 9, 3, 1),), ()), [[(0, 0, 0, 1)]], [(0, 0, 0, 2)])
        self.assertEqual((book, gifts, owed), wanted)

    def test_asked_again_the_same_is_told(self):
        for book in MANY[:20]:
            keeper = told(book)
            wanted = all_of(keeper)
            self.assertEqual((all_of(keeper), all_of(keeper)), (wanted, wanted))

    def test_what_is_told_may_be_handed_in_again(self):
        keeper = told(SAMPLE)
        self.assertIs(is_book(keeper.book_now()), True)
        self.assertIs(is_book(Keeper().book_now()), False)
        self.assertEqual(all_of(told(keeper.book_now())), all_of(keeper))
        self.assertEqual(gifts_in(keeper.book_now(), 1), keeper.gifts_of(1))

    def test_two_keepers_by_turns(self):
        one, other, dice = Keeper(), Keeper(), Dice(84)
        first, second = deeds_of(SAMPLE, dice), deeds_of(MANY[9], dice)
        for deed, late in itertools.zip_longest(first, second):
            before = all_of(other)
            if deed:
                do(one, *deed)
            self.assertEqual(all_of(other), before)
            if late:
                do(other, *late)
        self.assertEqual([one.book_now(), other.book_now()], [SAMPLE, MANY[9]])
        wanted = all_of(other)
        for _ in first:
            one.undo()
            self.assertEqual(all_of(other), wanted)
        self.refused(NoDeed, one.undo)
        self.assertEqual(all_of(Keeper()), (NOTHING, [], [], 0, None))


if __name__ == "__main__":
    unittest.main()
