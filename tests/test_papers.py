"""The lack, and papers, which show that no giving leaves less: points 2, 3, 50."""

import itertools
import unittest

from tests.common import (
    GREATEST, HUGE, NO_BOOKS, SAMPLE, STRANGE, Case, claims_by_words, given_by_words, put, resized, some_books, spoiled,
)
from woolyears.errors import NoBook, NoPaper, NoYear
from woolyears.owing import owed_by
from woolyears.papers import is_paper, lack_by, paper_of, shown_by

MANY = some_books(50, 150, 5)
LONG = some_books(51, 12, 20, 30)[6:]

# One sort is short in year 0, another in year 1, and year 2 makes good a part of it.
SHORT = (
    ((2, 0, 4), (7, 1, 0), (0, 6, 3)),
    ((0, 0, 0, 1, 5, 1), (1, 1, 1, 2, 4, 1), (2, 2, 0, 2, 3, 1)),
    ((2, 2, 4, 1, 1),),
)
NOTHING = (((0, 0, 0), (0, 0, 0)), (), ())


def papers_of(year):
    """All papers for a year, rising."""
    return itertools.product(range(year + 2), repeat=3)


def shown_by_words(book, year, paper):
    clips, promises, _ = book
    shown = 0
    for sort in range(3):
        for at in range(paper[sort], year + 1):
            shown += sum(row[4] for row in promises if row[1] == sort and row[2] <= at <= row[3])
        for at in range(min(paper[sort:]), year + 1):
            shown -= clips[at][sort]
    return shown


def path_through(ways, start, end):
    """A path along ways that have room left, as a dict of each place's place ahead, or None."""
    ahead, queue = {start: None}, [start]
    for place in queue:
        for other, room in ways[place].items():
            if room and other not in ahead:
                ahead[other] = place
                queue.append(other)
    return ahead if end in ahead else None


def best_giving(book, year):
    """The most sacks that any giving at all may give by a year's end: each sack of wool, of whatever year, to any
    claim of its own or a lesser sort, of its own year or one ahead."""
    clips, promises, sales = book
    ways = {"start": {}, "end": {}}
    for at, sort in itertools.product(range(year + 1), range(3)):
        ways["start"]["wool", at, sort] = clips[at][sort]
        ways["wool", at, sort] = {("claims", due, less): HUGE for due in range(at + 1) for less in range(sort, 3)}
        of_year = claims_by_words(promises, sales, at)
        ways["claims", at, sort] = {"end": sum(of_year[claim] for claim in of_year if promises[claim[1]][1] == sort)}
    given = 0
    while (ahead := path_through(ways, "start", "end")) is not None:
        steps, place = [], "end"
        while ahead[place] is not None:
            steps.append((ahead[place], place))
            place = ahead[place]
        sacks = min(ways[one][other] for one, other in steps)
        for one, other in steps:
            ways[one][other] -= sacks
            ways[other][one] = ways[other].get(one, 0) + sacks
        given += sacks
    return given


class Lack(Case):
    def test_all_that_is_owed(self):
        # By sort: 3, 0, 0 behind year 0; 1, 3, 3 behind year 1; 1, 1, 3 behind year 2.
        self.assertEqual([lack_by(SHORT, year) for year in range(3)], [3, 7, 5])

    def test_none(self):
        self.assertEqual([lack_by(NOTHING, year) for year in range(2)], [0, 0])
        book = (((3, 0, 0), (2, 0, 0)), ((0, 0, 0, 1, 2, 1),), ())
        self.assertEqual([lack_by(book, year) for year in range(2)], [0, 0])

    def test_over_many_books(self):
        for book in MANY + LONG:
            for year, (gifts, owed, left) in enumerate(given_by_words(*book)):
                self.assertEqual(lack_by(book, year), sum(row[3] for row in owed), (book, year))
                self.assertEqual(lack_by(book, year), sum(row[3] for row in owed_by(book, year)), (book, year))

    def test_no_other_giving_leaves_less(self):
        for book in MANY:
            due = 0
            for year in range(len(book[0])):
                due += sum(claims_by_words(*book[1:], year).values())
                self.assertEqual(lack_by(book, year), due - best_giving(book, year), (book, year))


class Known(Case):
    def test_numbers_from_0_to_the_year_and_one(self):
        for year, at in itertools.product(range(3), range(3)):
            for since in range(-3, 25):
                wanted = 0 <= since <= year + 1
                self.assertIs(is_paper(SHORT, year, put((0, 0, 0), at, since)), wanted)
                self.assertIs(is_paper(SHORT, year, put((year + 1,) * 3, at, since)), wanted)
            for since in (HUGE, -HUGE):
                self.assertIs(is_paper(SHORT, year, put((0, 0, 0), at, since)), False)

    def test_unlike_years_in_any_order(self):
        for paper in itertools.permutations((0, 1, 2)):
            self.assertIs(is_paper(SHORT, 1, paper), True)
            self.assertIs(is_paper(SHORT, 0, paper), False)

    def test_of_a_book_of_twenty_years(self):
        for since, wanted in ((19, True), (20, True), (21, False), (22, False)):
            self.assertIs(is_paper(GREATEST, 19, (since, 0, since)), wanted)

    def test_of_anything(self):
        right = (1, 0, 2)
        for thing in [thing for thing in STRANGE if thing != (1, 2, 3)] + spoiled(right) + resized(right):
            self.assertIs(is_paper(SHORT, 2, thing), False, repr(thing)[:300])
            self.refused(NoPaper, shown_by, SHORT, 2, thing)
        self.assertIs(is_paper(SHORT, 2, (1, 2, 3)), True)
        self.assertIs(is_paper(SHORT, 1, (1, 2, 3)), False)


class Shown(Case):
    def test_by_hand(self):
        # Claims by year: sort 0 5, 5, 0; sort 1 0, 4, 4; sort 2 3, 3, 3. Wool: 2, 7, 0; 0, 1, 6; 4, 0, 3.
        self.assertEqual(shown_by(SHORT, 0, (0, 1, 1)), 5 - 2)
        self.assertEqual(shown_by(SHORT, 0, (1, 1, 0)), 3 - 2 - 0 - 4)
        self.assertEqual(shown_by(SHORT, 1, (0, 1, 1)), 10 + 4 + 3 - 9 - 1 - 0)
        self.assertEqual(shown_by(SHORT, 1, (2, 1, 2)), 4 - 7 - 1)
        self.assertEqual(shown_by(SHORT, 2, (0, 1, 2)), 10 + 8 + 3 - 9 - 7 - 3)
        self.assertEqual(shown_by(SHORT, 2, (2, 1, 0)), 0 + 8 + 9 - 9 - 7 - 7)
        self.assertEqual(shown_by(SHORT, 2, (1, 3, 2)), 5 + 3 - 7 - 6 - 3)
        self.assertEqual(shown_by(SHORT, 2, (3, 0, 1)), 8 + 6 - 9 - 7 - 3)

    def test_all_behind_the_year_shows_nothing(self):
        for book in MANY + LONG + [SHORT, NOTHING]:
            for year in range(len(book[0])):
                self.assertEqual(shown_by(book, year, (year + 1,) * 3), 0)

    def test_below_0(self):
        book = (((5, 7, 9), (1, 0, 0)), (), ())
        self.assertEqual(shown_by(book, 1, (0, 0, 0)), -22)
        self.assertEqual(shown_by(book, 1, (0, 2, 2)), -6)
        self.assertEqual(shown_by(book, 1, (2, 0, 2)), -13)
        self.assertEqual(shown_by(book, 1, (2, 2, 0)), -22)
        self.assertEqual(shown_by(book, 1, (2, 2, 1)), -1)

    def test_wool_counts_for_this_and_the_better_sorts_from_the_least_year_on(self):
        book = (((1, 10, 100),) * 3, (), ())
        self.assertEqual(shown_by(book, 2, (0, 1, 2)), -(3 + 20 + 100))
        self.assertEqual(shown_by(book, 2, (2, 1, 0)), -333)
        self.assertEqual(shown_by(book, 2, (1, 0, 2)), -(3 + 30 + 100))
        self.assertEqual(shown_by(book, 2, (0, 3, 3)), -3)
        self.assertEqual(shown_by(book, 2, (3, 0, 3)), -33)

    def test_by_the_words(self):
        for book in MANY[:24] + [SHORT, NOTHING, SAMPLE]:
            for year in range(len(book[0])):
                for paper in papers_of(year):
                    self.assertEqual(shown_by(book, year, paper), shown_by_words(book, year, paper), (book, paper))

    def test_long_books_by_the_words(self):
        for book in LONG + [GREATEST]:
            last = len(book[0]) - 1
            for paper in itertools.product((0, 1, last // 2, last, last + 1), repeat=3):
                self.assertEqual(shown_by(book, last, paper), shown_by_words(book, last, paper), (book, paper))

    def test_sales_change_nothing(self):
        for book, paper in itertools.product(MANY[:24], papers_of(0)):
            self.assertEqual(shown_by(book, 0, paper), shown_by(put(book, 2, ()), 0, paper))


class First(Case):
    def test_by_hand(self):
        # In year 0 sort 0 alone lacks; claims of sort 1 are none as yet, but its wool is none either.
        self.assertEqual(paper_of(SHORT, 0), (0, 0, 1))
        self.assertEqual(paper_of(SHORT, 1), (0, 0, 1))
        self.assertEqual(paper_of(SHORT, 2), (0, 0, 1))

    def test_where_nothing_is_owed_or_there(self):
        self.assertEqual(paper_of(NOTHING, 0), (0, 0, 0))
        self.assertEqual(paper_of(NOTHING, 1), (0, 0, 0))

    def test_where_there_is_wool_and_no_claim(self):
        book = (((1, 0, 0), (0, 0, 0), (0, 0, 5)), (), ())
        self.assertEqual([paper_of(book, year) for year in range(3)], [(1, 1, 1), (1, 1, 1), (1, 1, 3)])

    def test_where_all_is_met_just_so(self):
        book = (((2, 0, 0), (2, 0, 0)), ((0, 0, 0, 1, 2, 1),), ())
        self.assertEqual([paper_of(book, year) for year in range(2)], [(0, 0, 0), (0, 0, 0)])

    def test_held_against_all_papers_of_the_year(self):
        """The first that shows the lack, and none shows more."""
        seen = set()
        for book in MANY + [SHORT, NOTHING, SAMPLE]:
            for year in range(len(book[0])):
                lack = lack_by(book, year)
                shown = {paper: shown_by_words(book, year, paper) for paper in papers_of(year)}
                self.assertEqual(max(shown.values()), lack, (book, year))
                wanted = min(paper for paper in shown if shown[paper] == lack)
                self.assertEqual(paper_of(book, year), wanted, (book, year))
                self.assertEqual(shown_by(book, year, wanted), lack, (book, year))
                seen.add(wanted)
        self.assertGreater(len(seen), 20)

    def test_long_books(self):
        for book in LONG:
            year = len(book[0]) - 1
            lack = lack_by(book, year)
            shown = {paper: shown_by_words(book, year, paper) for paper in papers_of(year)}
            self.assertEqual(max(shown.values()), lack)
            self.assertEqual(paper_of(book, year), min(paper for paper in shown if shown[paper] == lack), book)

    def test_what_is_told_is_a_paper(self):
        for book in MANY + LONG:
            for year in range(len(book[0])):
                self.assertIs(is_paper(book, year, paper_of(book, year)), True)

    def test_the_greatest_book_is_told_soon(self):
        paper = self.soon(paper_of, GREATEST, 19)
        lack = self.soon(lack_by, GREATEST, 19)
        self.assertEqual(lack, 20 * 990 - sum(sum(clip) for clip in GREATEST[0]))
        self.assertEqual(paper, (0, 0, 0))
        self.assertEqual(self.soon(shown_by, GREATEST, 19, paper), lack)
        self.assertIs(self.soon(is_paper, GREATEST, 19, paper), True)

    def test_the_last_paper_of_a_long_book_is_told_soon(self):
        book = put(GREATEST, 0, ((999, 0, 0),) * 20)
        self.assertEqual(self.soon(paper_of, book, 19), (20, 20, 20))

    def test_kinds(self):
        told = paper_of(SHORT, 2)
        self.assertIs(type(told), tuple)
        self.assertEqual([type(since) for since in told], [int] * 3)
        self.assertIs(type(lack_by(SHORT, 2)), int)
        self.assertIs(type(shown_by(SHORT, 2, told)), int)


class Refused(Case):
    def test_what_is_no_book(self):
        for asked in (lack_by, paper_of):
            self.refuses_books(asked, 0)
        for asked, paper in itertools.product((is_paper, shown_by), ((0, 0, 0), None)):
            self.refuses_books(asked, 0, paper)

    def test_what_is_no_year_of_the_clips(self):
        for asked in (lack_by, paper_of):
            self.refuses_years(asked)
        for asked, paper in itertools.product((is_paper, shown_by), ((0, 0, 0), None, (30, 0, 0))):
            self.refuses_years(asked, paper)

    def test_the_first_year_and_the_last(self):
        for many in (1, 2, 19, 20):
            book = (((0, 0, 0),) * many, (), ())
            for year in (0, many - 1):
                self.assertEqual((lack_by(book, year), paper_of(book, year)), (0, (0, 0, 0)))
                self.assertEqual(shown_by(book, year, (0, 0, year + 1)), 0)
                self.assertIs(is_paper(book, year, (0, year + 1, 0)), True)
                self.refused(NoPaper, shown_by, book, year, (0, year + 2, 0))
                self.refused(NoPaper, shown_by, book, year, (-1, 0, 0))
            for year in (-1, many):
                self.refused(NoYear, lack_by, book, year)
                self.refused(NoYear, paper_of, book, year)
                self.refused(NoYear, is_paper, book, year, (0, 0, 0))
                self.refused(NoYear, shown_by, book, year, (0, 0, 0))

    def test_in_order(self):
        for asked, paper in itertools.product((is_paper, shown_by), (None, (0, 0), [0, 0, 0], (0, 0, 9), (True, 0, 0))):
            for year in (None, True, -1, 3, 20, [0]):
                for thing in (None, list(SAMPLE), put(SAMPLE, 0, ()), SAMPLE[:2], 0):
                    self.refused(NoBook, asked, thing, year, paper)
                    self.refused(NoBook, asked, thing, 0, paper)
                self.refused(NoYear, asked, SAMPLE, year, paper)
            self.refused(NoPaper, shown_by, SAMPLE, 0, paper)


class Own(Case):
    """Point 2."""

    def test_nothing_handed_in_is_changed(self):
        for thing in NO_BOOKS:
            kept = repr(thing)
            self.refused(NoBook, lack_by, thing, 0)
            self.refused(NoBook, paper_of, thing, 0)
            told = is_paper(SAMPLE, 0, thing)
            self.assertIs(is_paper(SAMPLE, 0, thing), told)
            self.assertEqual(repr(thing), kept)

    def test_a_list_that_was_handed_in_may_change_later(self):
        paper = [0, 1, 0]
        self.assertIs(is_paper(SHORT, 1, paper), False)
        self.refused(NoPaper, shown_by, SHORT, 1, paper)
        self.assertEqual(paper, [0, 1, 0])
        paper.clear()
        self.assertIs(is_paper(SHORT, 1, (0, 1, 0)), True)

    def test_two_books_by_turns(self):
        others = [SHORT, SAMPLE, GREATEST]
        wanted = [[(lack_by(book, year), paper_of(book, year)) for year in range(3)] for book in others]
        for year in (2, 0, 1):
            for book, told in zip(others, wanted):
                self.assertEqual((lack_by(book, year), paper_of(book, year)), told[year])

    def test_the_same_behind_a_refusal(self):
        wanted = shown_by(SHORT, 2, (0, 1, 2))
        self.refused(NoPaper, shown_by, SHORT, 2, (0, 1, 4))
        self.refused(NoYear, shown_by, SHORT, 3, (0, 1, 2))
        self.assertEqual(shown_by(SHORT, 2, (0, 1, 2)), wanted)

    def test_what_was_told_may_be_handed_in_again(self):
        for year in range(3):
            self.assertEqual(shown_by(SHORT, year, paper_of(SHORT, year)), lack_by(SHORT, year))


if __name__ == "__main__":
    unittest.main()
