"""Clips, promises, sales, books and holdings: points 2, 10, 11, 12, 13."""

import copy
import itertools
import unittest

from tests.common import HUGE, STRANGE, Case, put, resized, spoiled, tables_behind
from woolyears.books import are_clips, are_promises, first_unheld, holdings, is_book
from woolyears.errors import NoBook, NoNumber, NoPromises, NoSales, NoYear

CLIPS = ((3, 0, 12), (4, 1, 9), (0, 999, 5))
# The second promise lies behind all clips.
PROMISES = ((0, 0, 0, 4, 10, 250), (7, 2, 19, 19, 1, 0), (3, 1, 2, 3, 99, 1000000))
SALES = ((0, 0, 1, 4, 1), (0, 1, 2, 3, 2), (0, 0, 2, 6, 4), (2, 3, 7, 99, 3), (1, 7, 0, 1, 19))
BOOK = (CLIPS, PROMISES, SALES)
TOO_EARLY = (0, 0, 1, 10, 0)
TEN_A_YEAR = ((0, 0, 2, 6, 10, 5),)


class Clips(Case):
    def test_clips_are_known(self):
        rows = (((0, 0, 0),), ((999, 999, 999),), CLIPS, ((1, 2, 3),) * 20, ((1, 2, 3), (1, 2, 3)))
        self.all_told(True, are_clips, rows)

    def test_one_to_twenty_years(self):
        self.all_told(True, are_clips, [((1, 2, 3),) * many for many in range(1, 21)])
        self.all_told(False, are_clips, [(), ((1, 2, 3),) * 21, ((1, 2, 3),) * 22])

    def test_sacks_from_0_to_999(self):
        for year, sort in itertools.product(range(3), range(3)):
            clips = [put(CLIPS, year, put(CLIPS[year], sort, sacks)) for sacks in (0, 1, 998, 999)]
            self.all_told(True, are_clips, clips)
            clips = [put(CLIPS, year, put(CLIPS[year], sort, sacks)) for sacks in (-1, 1000, HUGE, -HUGE)]
            self.all_told(False, are_clips, clips)

    def test_just_three_sorts(self):
        for year in range(3):
            self.all_told(False, are_clips, [put(CLIPS, year, row) for row in resized(CLIPS[year])])

    def test_a_clip_alone_is_no_clips(self):
        self.assertIs(are_clips((1, 2, 3)), False)

    def test_of_anything(self):
        self.all_told(False, are_clips, STRANGE)
        self.all_told(False, are_clips, spoiled(CLIPS))


class Promises(Case):
    def test_none_to_ten(self):
        self.all_told(True, are_promises, [PROMISES[:1] * many for many in range(11)])
        self.all_told(False, are_promises, [PROMISES[:1] * 11, PROMISES[:1] * 12])

    def edges(self, place, right, wrong):
        for at, promise in enumerate(PROMISES):
            rows = [put(PROMISES, at, put(promise, place, number)) for number in right]
            self.all_told(True, are_promises, rows)
            rows = [put(PROMISES, at, put(promise, place, number)) for number in wrong + (HUGE, -HUGE)]
            self.all_told(False, are_promises, rows)

    def test_holders_from_0_to_7(self):
        self.edges(0, (0, 1, 6, 7), (-1, 8))

    def test_sorts_from_0_to_2(self):
        self.edges(1, (0, 1, 2), (-1, 3))

    def test_sacks_from_1_to_99(self):
        self.edges(4, (1, 2, 98, 99), (0, -1, 100))

    def test_prices_from_0_to_a_million(self):
        self.edges(5, (0, 1, 999999, 1000000), (-1, 1000001))

    def test_years_from_0_to_19_the_first_no_greater(self):
        for first, last in itertools.product(range(-2, 23), repeat=2):
            wanted = 0 <= first <= last <= 19
            self.all_told(wanted, are_promises, [((1, 1, first, last, 5, 5),)])
        for first, last in ((0, HUGE), (-HUGE, 0), (HUGE, HUGE), (-HUGE, HUGE)):
            self.all_told(False, are_promises, [((1, 1, first, last, 5, 5),)])

    def test_just_six_parts(self):
        for at, promise in enumerate(PROMISES):
            self.all_told(False, are_promises, [put(PROMISES, at, row) for row in resized(promise)])

    def test_a_promise_alone_is_no_promises(self):
        self.assertIs(are_promises(PROMISES[0]), False)

    def test_of_anything(self):
        self.all_told(False, are_promises, STRANGE)
        self.all_told(False, are_promises, spoiled(PROMISES))


class Sales(Case):
    def test_all_hold(self):
        self.assertIsNone(first_unheld(PROMISES, SALES))
        self.assertIsNone(first_unheld(PROMISES, ()))
        self.assertIsNone(first_unheld((), ()))

    def unheld(self, sale):
        """Told behind sales that hold, and ahead of others that do and don't."""
        self.assertEqual(first_unheld(PROMISES, (sale,)), 0, sale)
        self.assertEqual(first_unheld(PROMISES, SALES + (sale,) + SALES[:2]), len(SALES), sale)

    def test_the_number_of_a_promise(self):
        for number in (-1, -2, -3, 3, 4, HUGE, -HUGE):
            self.unheld((number, 0, 1, 1, 2))
        self.assertEqual(first_unheld((), ((0, 0, 1, 1, 0),)), 0)

    def test_sellers_and_buyers_are_two_unlike_holders(self):
        for one in (-8, -1, 8, 9, HUGE, -HUGE):
            self.unheld((0, one, 1, 1, 2))
            self.unheld((0, 0, one, 1, 2))
        for holder in range(8):
            self.unheld((0, holder, holder, 1, 2))

    def test_every_holder_may_sell_and_buy(self):
        for seller, buyer in itertools.permutations(range(8), 2):
            promises = ((seller, 0, 0, 3, 10, 5),)
            self.assertIsNone(first_unheld(promises, ((0, seller, buyer, 10, 0),)))

    def test_sacks_from_1_to_99(self):
        promises = ((3, 1, 2, 3, 99, 5),)
        for sacks in (1, 2, 98, 99):
            self.assertIsNone(first_unheld(promises, ((0, 3, 0, sacks, 2),)))
        for sacks in (0, -1, -99, 100, HUGE, -HUGE):
            self.assertEqual(first_unheld(promises, ((0, 3, 0, sacks, 2),)), 0)
            self.unheld((0, 0, 1, sacks, 2))

    def test_no_sale_of_no_sacks_by_one_who_has_none(self):
        self.assertEqual(first_unheld(TEN_A_YEAR, ((0, 5, 6, 0, 2),)), 0)
        self.assertEqual(first_unheld(TEN_A_YEAR, ((0, 5, 6, -1, 2),)), 0)

    def test_the_year_is_one_of_the_promise(self):
        for year in range(-2, 25):
            wanted = None if 2 <= year <= 6 else 0
            self.assertEqual(first_unheld(TEN_A_YEAR, ((0, 0, 1, 1, year),)), wanted)
        for year in (HUGE, -HUGE):
            self.unheld((0, 0, 1, 1, year))

    def test_the_seller_has_so_many(self):
        self.assertIsNone(first_unheld(TEN_A_YEAR, ((0, 0, 1, 10, 2),)))
        self.assertEqual(first_unheld(TEN_A_YEAR, ((0, 0, 1, 11, 2),)), 0)
        self.assertEqual(first_unheld(TEN_A_YEAR, ((0, 1, 0, 1, 2),)), 0)
        self.assertIsNone(first_unheld(TEN_A_YEAR, ((0, 0, 1, 6, 2), (0, 0, 1, 4, 2))))
        self.assertEqual(first_unheld(TEN_A_YEAR, ((0, 0, 1, 6, 2), (0, 0, 1, 5, 2))), 1)

    def test_in_each_of_the_years_behind(self):
        self.assertIsNone(first_unheld(TEN_A_YEAR, ((0, 0, 1, 8, 5), (0, 0, 2, 2, 3))))
        self.assertEqual(first_unheld(TEN_A_YEAR, ((0, 0, 1, 8, 5), (0, 0, 2, 3, 3))), 1)
        self.assertEqual(first_unheld(TEN_A_YEAR, ((0, 0, 1, 8, 6), (0, 0, 2, 3, 3))), 1)

    def test_the_buyer_has_them_from_that_year_on_alone(self):
        self.assertIsNone(first_unheld(TEN_A_YEAR, ((0, 0, 1, 8, 5), (0, 1, 2, 8, 5))))
        self.assertEqual(first_unheld(TEN_A_YEAR, ((0, 0, 1, 8, 5), (0, 1, 2, 1, 4))), 1)
        self.assertIsNone(first_unheld(TEN_A_YEAR, ((0, 0, 1, 8, 3), (0, 1, 0, 8, 5), (0, 0, 3, 10, 5))))

    def test_sales_of_other_promises_count_for_nothing(self):
        promises = TEN_A_YEAR * 2
        self.assertEqual(first_unheld(promises, ((1, 0, 1, 5, 2), (0, 1, 2, 1, 2))), 1)
        self.assertIsNone(first_unheld(promises, ((1, 0, 1, 10, 2), (0, 0, 1, 10, 2))))

    def test_gone_through_in_order(self):
        sales = ((0, 0, 1, 4, 2), (0, 1, 2, 4, 2))
        self.assertIsNone(first_unheld(TEN_A_YEAR, sales))
        self.assertEqual(first_unheld(TEN_A_YEAR, sales[::-1]), 0)

    def test_the_first_of_several_is_told(self):
        bad = (0, 0, 1, 100, 2)
        good = (0, 0, 1, 1, 2)
        self.assertEqual(first_unheld(TEN_A_YEAR, (good, good, bad, good, bad)), 2)

    def test_none_to_twelve_sales(self):
        promises = ((0, 0, 0, 0, 99, 5),)
        for many in range(13):
            self.assertIsNone(first_unheld(promises, ((0, 0, 1, 1, 0),) * many))
        for many in (13, 14):
            self.refused(NoSales, first_unheld, promises, ((0, 0, 1, 1, 0),) * many)

    def test_twelve_sales_the_last_unheld(self):
        promises = ((0, 0, 0, 0, 11, 5),)
        self.assertEqual(first_unheld(promises, ((0, 0, 1, 1, 0),) * 12), 11)

    def test_what_is_no_promises_is_refused(self):
        for thing in list(STRANGE) + spoiled(PROMISES) + [PROMISES[:1] * 11]:
            self.refused(NoPromises, first_unheld, thing, SALES)

    def test_what_is_no_sales_is_refused(self):
        wrong = [put(SALES, at, row) for at, sale in enumerate(SALES) for row in resized(sale)]
        for thing in list(STRANGE) + spoiled(SALES) + wrong:
            self.refused(NoSales, first_unheld, PROMISES, thing)

    def test_wrong_sales_are_refused_behind_one_that_does_not_hold(self):
        self.refused(NoSales, first_unheld, PROMISES, ((0, 0, 0, 1, 0), (0, 0, 1, 1, True)))

    def test_promises_are_looked_at_first(self):
        self.refused(NoPromises, first_unheld, list(PROMISES), list(SALES))
        self.refused(NoPromises, first_unheld, None, SALES * 3)


class Reckoned(Case):
    def test_all_small_books(self):
        promises = ((0, 0, 0, 2, 3, 1), (1, 2, 1, 3, 2, 1))
        choices = list(itertools.product((0, 1), (0, 1), (1, 2), (1, 3), (0, 1, 2)))
        held = 0
        for sales in itertools.product(choices, repeat=3):
            tables, wanted = tables_behind(promises, sales)
            self.assertEqual(first_unheld(promises, sales), wanted, sales)
            if wanted is None:
                held += 1
                self.same_holdings((CLIPS, promises, sales), tables)
        self.assertGreater(held, 100)

    def same_holdings(self, book, tables):
        self.assertIs(is_book(book), True)
        for number, year in itertools.product((0, 1), range(5)):
            row = tables[number].get(year, {})
            wanted = sorted((holder, sacks) for holder, sacks in row.items() if sacks)
            self.assertEqual(holdings(book, number, year), wanted, (book, number, year))


class Books(Case):
    def test_books_are_known(self):
        self.all_told(True, is_book, (BOOK, (CLIPS, (), ()), (CLIPS, PROMISES, ()), (CLIPS[:1], PROMISES, SALES)))

    def test_most_of_all(self):
        clips = ((999, 999, 999),) * 20
        promises = ((7, 2, 0, 19, 99, 1000000),) * 10
        self.assertIs(is_book((clips, promises, ((9, 7, 0, 8, 19),) * 12)), True)
        self.assertIs(is_book((clips + clips[:1], promises, ())), False)
        self.assertIs(is_book((clips, promises + promises[:1], ())), False)
        self.assertIs(is_book((clips, promises, ((9, 7, 0, 1, 19),) * 13)), False)

    def test_sales_that_do_not_hold_make_no_book(self):
        self.assertIs(is_book((CLIPS, TEN_A_YEAR, ((0, 0, 1, 10, 2),))), True)
        unheld = ((0, 0, 1, 11, 2), (1, 0, 1, 1, 2), (0, 0, 0, 1, 2), (0, 0, 1, 1, 7), (0, 0, 1, 0, 2))
        for sale in unheld + ((0, 0, HUGE, 1, 2),):
            self.assertIs(is_book((CLIPS, TEN_A_YEAR, (sale,))), False, sale)
        self.assertIs(is_book((CLIPS, (), ((0, 0, 1, 1, 0),))), False)

    def test_clips_are_wanted(self):
        self.all_told(False, is_book, [put(BOOK, 0, thing) for thing in STRANGE])

    def test_just_three_parts_in_their_order(self):
        self.all_told(False, is_book, resized(BOOK))
        self.all_told(False, is_book, [row for row in itertools.permutations(BOOK) if row != BOOK])

    def test_of_anything(self):
        self.all_told(False, is_book, STRANGE)
        self.all_told(False, is_book, spoiled(BOOK))


class Holdings(Case):
    def test_behind_several_sales(self):
        wanted = {
            0: [(0, 10)],
            1: [(0, 6), (1, 4)],
            2: [(0, 6), (1, 1), (2, 3)],
            3: [(0, 6), (1, 1), (2, 3)],
            4: [(1, 1), (2, 9)],
        }
        for year in range(20):
            self.assertEqual(holdings(BOOK, 0, year), wanted.get(year, []), year)

    def test_a_promise_behind_all_clips(self):
        for year in range(20):
            self.assertEqual(holdings(BOOK, 1, year), [(0, 1)] if year == 19 else [], year)

    def test_sold_wholly(self):
        self.assertEqual([holdings(BOOK, 2, year) for year in range(5)], [[], [], [(3, 99)], [(7, 99)], []])

    def test_a_sale_of_a_later_year_ahead(self):
        book = (CLIPS, TEN_A_YEAR, ((0, 0, 1, 8, 5), (0, 0, 2, 2, 3)))
        wanted = [[], [], [(0, 10)], [(0, 8), (2, 2)], [(0, 8), (2, 2)], [(1, 8), (2, 2)], [(1, 8), (2, 2)], []]
        self.assertEqual([holdings(book, 0, year) for year in range(8)], wanted)

    def test_bought_back(self):
        book = (CLIPS, TEN_A_YEAR, ((0, 0, 1, 10, 2), (0, 1, 0, 10, 2)))
        self.assertEqual(holdings(book, 0, 2), [(0, 10)])

    def test_rising_with_all_holders(self):
        sales = tuple((0, 7, buyer, 1, 0) for buyer in (3, 1, 6, 0, 2, 5, 4))
        book = (CLIPS, ((7, 0, 0, 0, 20, 1),), sales)
        self.assertEqual(holdings(book, 0, 0), [(holder, 1) for holder in range(7)] + [(7, 13)])

    def test_all_that_is_told_is_the_promise(self):
        for number, promise in enumerate(PROMISES):
            for year in range(20):
                due = promise[4] if promise[2] <= year <= promise[3] else 0
                self.assertEqual(sum(sacks for _, sacks in holdings(BOOK, number, year)), due)

    def test_kinds(self):
        told = holdings(BOOK, 0, 2)
        self.assertIs(type(told), list)
        self.assertEqual({type(row) for row in told}, {tuple})
        self.assertEqual({type(number) for row in told for number in row}, {int})

    def test_what_is_no_book_is_refused(self):
        unheld = (CLIPS, TEN_A_YEAR, ((0, 0, 1, 11, 2),))
        for thing in list(STRANGE) + spoiled(BOOK) + resized(BOOK) + [unheld]:
            self.refused(NoBook, holdings, thing, 0, 0)

    def test_the_number_of_a_promise(self):
        self.assertEqual(holdings(BOOK, 2, 2), [(3, 99)])
        numbers = [thing for thing in STRANGE if type(thing) is not int or not 0 <= thing <= 2]
        for number in numbers + [-2, -3, 3, 4]:
            self.refused(NoNumber, holdings, BOOK, number, 0)
        for number in (0, -1, 1, HUGE):
            self.refused(NoNumber, holdings, (CLIPS, (), ()), number, 0)
        full = (CLIPS, TEN_A_YEAR * 10, ())
        self.assertEqual(holdings(full, 9, 2), [(0, 10)])
        self.refused(NoNumber, holdings, full, 10, 2)

    def test_years_from_0_to_19(self):
        years = [thing for thing in STRANGE if type(thing) is not int or not 0 <= thing <= 19]
        for year in years + [20, 21, -2]:
            self.refused(NoYear, holdings, BOOK, 0, year)

    def test_refusals_from_the_left(self):
        self.refused(NoBook, holdings, None, None, None)
        self.refused(NoBook, holdings, list(BOOK), 3, 0)
        self.refused(NoBook, holdings, list(BOOK), 0, 20)
        self.refused(NoNumber, holdings, BOOK, 3, 20)
        self.refused(NoNumber, holdings, BOOK, True, True)
        self.refused(NoYear, holdings, BOOK, 0, True)


class Own(Case):
    """Point 2: nothing handed in is changed or kept, what is told is the asker's own."""

    def test_what_is_told_may_be_changed(self):
        first = holdings(BOOK, 0, 2)
        wanted = list(first)
        other = holdings(BOOK, 0, 2)
        self.assertIsNot(first, other)
        first.clear()
        self.assertEqual(other, wanted)
        other.append((5, 5))
        self.assertEqual(holdings(BOOK, 0, 2), wanted)

    def test_an_empty_list_is_the_askers_own_too(self):
        first = holdings(BOOK, 0, 10)
        first.append((5, 5))
        self.assertEqual(holdings(BOOK, 0, 10), [])
        self.assertEqual(holdings(BOOK, 0, 11), [])

    def test_nothing_handed_in_is_changed(self):
        for thing in list(STRANGE) + spoiled(BOOK) + [BOOK]:
            kept = copy.deepcopy(thing)
            for asked in (are_clips, are_promises, is_book):
                told = asked(thing)
                self.assertIs(asked(thing), told)
            self.assertEqual(repr(thing), repr(kept))
        kept = copy.deepcopy(BOOK)
        holdings(BOOK, 0, 4)
        first_unheld(PROMISES, SALES)
        self.assertEqual(BOOK, kept)

    def test_a_list_that_was_handed_in_may_change_later(self):
        row = [3, 0, 12]
        thing = (row,)
        self.assertIs(are_clips(thing), False)
        row.clear()
        self.assertIs(are_clips(((3, 0, 12),)), True)
        self.assertIs(are_clips(thing), False)

    def test_asked_again_the_same_is_told(self):
        for _ in range(3):
            self.assertIsNone(first_unheld(PROMISES, SALES))
            self.assertEqual(first_unheld(TEN_A_YEAR, (TOO_EARLY,)), 0)
            self.assertEqual(holdings(BOOK, 0, 4), [(1, 1), (2, 9)])
            self.refused(NoBook, holdings, None, 0, 4)


if __name__ == "__main__":
    unittest.main()
