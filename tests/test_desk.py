"""A desk and its lines: points 2, 91."""

import itertools
import re
import unittest

from tests.common import (
    GREATEST, HUGE, SAMPLE, STRANGE, TURNS, Case, Dice, deeds_of, one_sign_off, put, some_books, told_by_words,
)
from woolyears.desk import Desk
from woolyears.errors import NoClip, NoDeed, NoLine, NoPromise, NoSale, NoYear, WoolError
from woolyears.keeper import Keeper

MANY = some_books(92, 60)
COUNTS = {"shear": 3, "pledge": 6, "sell": 5, "undo": 0, "gifts": 1, "owed": 0, "lack": 0, "turned": 0}
RIGHT = (
    "shear 3 0 12", "shear 999 999 999", "pledge 7 2 0 19 99 1000000", "pledge 0 0 0 0 1 0", "sell 0 2 3 1 1", "undo",
    "gifts 0", "gifts 1", "owed", "lack", "turned",
)


def line_of(name, numbers):
    return " ".join([name] + [str(number) for number in numbers])


def desk_of(book):
    """A desk that is told the clips, the promises and the sales of a book, in this order."""
    desk = Desk()
    for name, rows in zip(("shear", "pledge", "sell"), book):
        for row in rows:
            desk.say(line_of(name, row))
    return desk


def rows_by_words(rows):
    return " ".join("%d:%d:%d:%d" % row for row in rows) or "none"


def answers_of(desk):
    """All that a desk answers to the questions: the gifts of each year, what is owed, the lack, the year turned."""
    answers = []
    for year in range(20):
        try:
            answers.append(desk.say(f"gifts {year}"))
        except NoYear:
            answers.append(None)
    return answers + [desk.say("owed"), desk.say("lack"), desk.say("turned")]


def answers_by_words(book, before):
    _, gifts, owed, lack, turned = told_by_words(book, before)
    answers = [rows_by_words(rows) for rows in gifts] + [None] * (20 - len(gifts))
    return answers + [rows_by_words(owed), str(lack), "none" if turned is None else str(turned)]


def said_to_a_keeper(keeper, line):
    """What a desk with this keeper is to answer, or the class of its refusal."""
    name, *words = line.split(" ")
    if name not in COUNTS or len(words) != COUNTS[name]:
        return NoLine
    if not all(re.fullmatch("0|[1-9][0-9]{0,29}", word) for word in words):
        return NoLine
    numbers = tuple(int(word) for word in words)
    try:
        if name in ("shear", "sell"):
            {"shear": keeper.shear, "sell": keeper.sell}[name](numbers)
            return "ok"
        if name == "undo":
            keeper.undo()
            return "ok"
        if name == "pledge":
            return str(keeper.pledge(numbers))
        if name == "turned":
            year = keeper.turned()
            return "none" if year is None else str(year)
        if name == "lack":
            return str(keeper.lack_now())
        return rows_by_words(keeper.owed_now() if name == "owed" else keeper.gifts_of(*numbers))
    except WoolError as error:
        return type(error)


def pair():
    """A desk and a keeper that were told the same."""
    desk, keeper = Desk(), Keeper()
    for line in ("shear 1 0 5", "pledge 2 0 0 3 2 7", "shear 1 1 0", "sell 0 2 3 1 1"):
        desk.say(line)
        said_to_a_keeper(keeper, line)
    return desk, keeper


class Said(Case):
    def test_deeds_and_questions(self):
        desk = Desk()
        said = (
            ("owed", "none"), ("lack", "0"), ("turned", "none"),
            ("shear 3 0 1", "ok"), ("gifts 0", "none"), ("owed", "none"), ("turned", "none"),
            ("pledge 4 0 0 1 5 100", "0"), ("gifts 0", "0:0:4:3"), ("owed", "0:0:4:2"), ("lack", "2"), ("turned", "0"),
            ("pledge 6 2 0 19 1 0", "1"), ("gifts 0", "0:0:4:3 0:1:6:1"), ("turned", "0"),
            ("sell 0 4 5 2 1", "ok"), ("turned", "none"),
            ("shear 6 0 0", "ok"), ("gifts 1", "0:0:4:1 1:0:4:3 1:0:5:2"), ("owed", "0:0:4:1 1:1:6:1"), ("lack", "2"),
            ("turned", "1"),
            ("undo", "ok"), ("lack", "2"), ("owed", "0:0:4:2"), ("turned", "none"),
            ("undo", "ok"), ("turned", "0"), ("undo", "ok"), ("gifts 0", "0:0:4:3"),
            ("undo", "ok"), ("undo", "ok"), ("owed", "none"), ("lack", "0"), ("turned", "none"),
        )
        for line, answer in said:
            self.assertEqual(desk.say(line), answer, line)
            self.assertIs(type(desk.say("lack")), str)
        self.refused(NoDeed, desk.say, "undo")
        self.refused(NoYear, desk.say, "gifts 0")

    def test_each_promise_is_told_its_number(self):
        desk = Desk()
        self.assertEqual([desk.say("pledge 0 0 0 0 1 0") for _ in range(10)], [str(at) for at in range(10)])

    def test_numbers_of_many_figures(self):
        desk = desk_of((((999, 0, 0),), ((7, 0, 0, 0, 99, 1000000),) * 10, ()))
        self.assertEqual(desk.say("gifts 0"), " ".join(f"0:{number}:7:99" for number in range(10)))
        desk = desk_of((((0, 0, 0),) * 20, ((7, 0, 0, 19, 99, 1000000),) * 10, ()))
        self.assertEqual(desk.say("lack"), "19800")
        owed = [f"{due}:{number}:7:99" for due in range(20) for number in range(10)]
        self.assertEqual(desk.say("owed"), " ".join(owed))

    def test_the_year_turned(self):
        desk = desk_of((((1, 0, 0),) * 20, ((0, 0, 19, 19, 1, 1),), ()))
        self.assertEqual((desk.say("turned"), desk.say("gifts 19")), ("19", "19:0:0:1"))
        self.assertEqual((desk.say("undo"), desk.say("turned")), ("ok", "none"))

    def test_by_the_words_behind_each_deed(self):
        dice = Dice(93)
        for book in MANY[:30] + [TURNS, SAMPLE]:
            desk, keeper = Desk(), Keeper()
            for name, thing in deeds_of(book, dice):
                before = keeper.book_now()
                line = line_of(name, thing)
                self.assertEqual(desk.say(line), said_to_a_keeper(keeper, line))
                self.assertEqual(answers_of(desk), answers_by_words(keeper.book_now(), before), line)
            self.assertEqual(keeper.book_now(), book)

    def test_as_a_keeper_that_is_told_the_same(self):
        dice, refusals = Dice(94), set()
        for book in MANY:
            desk, keeper = Desk(), Keeper()
            lines = []
            for name, thing in deeds_of(book, dice):
                lines += [line_of(name, thing)] + [dice.one_of(RIGHT) for _ in range(3)]
            for line in lines:
                wanted = said_to_a_keeper(keeper, line)
                if isinstance(wanted, str):
                    self.assertEqual(desk.say(line), wanted, line)
                else:
                    self.refused(wanted, desk.say, line)
                    refusals.add(wanted.__name__)
        self.assertEqual(refusals, {"NoYear", "NoDeed", "NoSale", "TooMany"})

    def test_behind_deeds_undone_as_if_they_had_never_been(self):
        desk, plain = pair()[0], pair()[0]
        for line in RIGHT[:5]:
            desk.say(line)
        for _ in RIGHT[:5]:
            self.assertEqual(desk.say("undo"), "ok")
        self.assertEqual(answers_of(desk), answers_of(plain))

    def test_the_greatest_book_is_told_soon(self):
        for book in (GREATEST, put(GREATEST, 0, ((500, 250, 150), (700, 300, 500)) * 10)):
            desk = self.soon(desk_of, book)
            before = put(book, 2, book[2][:11])
            self.assertEqual(self.soon(answers_of, desk), answers_by_words(book, before))


class NoLines(Case):
    def setUp(self):
        self.desk = pair()[0]
        self.wanted = answers_of(self.desk)

    def tearDown(self):
        self.assertEqual(answers_of(self.desk), self.wanted)
        for _ in range(4):
            self.assertEqual(self.desk.say("undo"), "ok")
        self.refused(NoDeed, self.desk.say, "undo")

    def no_line(self, line):
        self.refused(NoLine, self.desk.say, line)
        self.refused(NoLine, Desk().say, line)

    def test_no_text(self):
        for thing in list(STRANGE) + [["undo"], ("undo",), {"undo": 1}, ("shear", 1, 2, 3), (1, 2, 3), ["lack"]]:
            kept = repr(thing)
            self.no_line(thing)
            self.assertEqual(repr(thing), kept)

    def test_another_word_ahead(self):
        words = ("", "Shear", "SHEAR", "shears", "shea", "book", "clip", "none", "ok", "redo", "0", "-", "turn", "gift")
        for word, many in itertools.product(words, range(7)):
            self.no_line(line_of(word, [1] * many))

    def test_another_number_of_words(self):
        for word, many in itertools.product(COUNTS, range(9)):
            if many != COUNTS[word]:
                self.no_line(line_of(word, [1] * many))

    def test_blanks(self):
        for line in RIGHT:
            for other in (" " + line, line + " ", " " + line + " ", "  " + line, line + "  "):
                self.no_line(other)
            if " " in line:
                self.no_line(line.replace(" ", "  ", 1))
                self.no_line("  ".join(line.rsplit(" ", 1)))
                self.no_line(line.replace(" ", ""))
                self.no_line(line.replace(" ", "\t"))
                self.no_line(line.replace(" ", "\n"))
                self.no_line(line.replace(" ", ","))

    def test_tabs_and_line_ends(self):
        for line, sign in itertools.product(RIGHT, ("\t", "\n", "\r", "\n\n")):
            self.no_line(line + sign)
            self.no_line(sign + line)
        self.no_line("undo\nundo")

    def test_numbers_that_are_none_so_written(self):
        wrong = (
            "", "00", "01", "007", "+1", "-1", "-0", "+0", "1.0", "1_0", "0x1", "1e1", "a", "1a", "\t1", "1\n", "~",
            "None", "True", "1,", "9" * 31, "1" + "0" * 30, "0" * 30, "0" * 31, "0" + "1" * 29, "1" * 890,
        )
        for word in wrong:
            self.no_line(f"gifts {word}")
            for name, many in (("shear", 3), ("pledge", 6), ("sell", 5)):
                for at in range(many):
                    self.no_line(line_of(name, put((1,) * many, at, word)))

    def test_ahead_of_all_else(self):
        self.no_line("shear 1000 0 00")
        self.no_line("shear 00 1000 0")
        self.no_line("shear 1000 0")
        self.no_line("pledge 8 3 20 20 0 -1")
        self.no_line("sell 9 9 9 9 9 9")
        self.no_line("gifts 99 ")
        full = desk_of((((0, 0, 0),) * 20, ((0, 0, 0, 0, 1, 0),) * 10, ((0, 0, 1, 1, 0), (0, 1, 0, 1, 0)) * 6))
        for line in ("shear 0 0 0", "pledge 0 0 0 0 1 0", "sell 0 0 1 1 0"):
            for wrong in (line[:-2], line + "0", line[:-1] + "+0", line[:-1] + "-0", line + " 0"):
                self.refused(NoLine, full.say, wrong)
        self.refused(NoLine, Desk().say, "undo 1")
        self.refused(NoLine, Desk().say, " undo")


class OneSignOff(Case):
    def test_each_line(self):
        lines, answered = 0, 0
        for line in RIGHT:
            for other in one_sign_off(line):
                desk, keeper = pair()
                wanted = said_to_a_keeper(keeper, other)
                if isinstance(wanted, str):
                    self.assertEqual(desk.say(other), wanted, other)
                    answered += 1
                else:
                    self.refused(wanted, desk.say, other)
                    lines += 1
        self.assertGreater(lines, 20000)
        self.assertGreater(answered, 200)


class Refused(Case):
    def test_as_the_keepers(self):
        desk = pair()[0]
        wanted = answers_of(desk)
        for line in ("shear 1000 0 0", "shear 0 1000 0", "shear 0 0 1000", "shear 0 0 " + "9" * 30):
            self.refused(NoClip, desk.say, line)
        for line in ("pledge 8 0 0 0 1 0", "pledge 0 3 0 0 1 0", "pledge 0 0 20 20 1 0", "pledge 0 0 0 20 1 0",
                     "pledge 0 0 1 0 1 0", "pledge 0 0 0 0 0 0", "pledge 0 0 0 0 100 0", "pledge 0 0 0 0 1 1000001",
                     f"pledge {HUGE} 0 0 0 1 0"):
            self.refused(NoPromise, desk.say, line)
        for line in ("sell 1 2 3 1 0", "sell 0 8 3 1 0", "sell 0 2 8 1 0", "sell 0 2 2 1 0", "sell 0 2 3 0 0",
                     "sell 0 2 3 2 1", "sell 0 2 3 1 4", "sell 0 0 3 1 1", f"sell 0 2 3 {HUGE} 0"):
            self.refused(NoSale, desk.say, line)
        for line in ("gifts 2", "gifts 19", "gifts 20", f"gifts {HUGE}"):
            self.refused(NoYear, desk.say, line)
        self.assertEqual(answers_of(desk), wanted)
        for _ in range(4):
            desk.say("undo")
        self.refused(NoDeed, desk.say, "undo")

    def test_thirty_figures_and_one_more(self):
        desk = pair()[0]
        for number in (10**29, HUGE):
            self.refused(NoYear, desk.say, f"gifts {number}")
            self.refused(NoClip, desk.say, f"shear 1 {number} 1")
            self.refused(NoPromise, desk.say, f"pledge 0 0 0 0 1 {number}")
            self.refused(NoSale, desk.say, f"sell 0 2 3 1 {number}")
        for number in (10**30, 10**31 - 1):
            for line in ("gifts", "shear 1 1", "pledge 0 0 0 0 1", "sell 0 2 3 1"):
                self.refused(NoLine, desk.say, f"{line} {number}")

    def test_one_more_than_the_most(self):
        desk = desk_of((((1, 0, 0),) * 20, ((0, 0, 0, 0, 1, 0),) * 10, ((0, 0, 1, 1, 0), (0, 1, 0, 1, 0)) * 6))
        wanted = answers_of(desk)
        self.one_more_refused(21, 20, desk.say, "shear 0 0 0")
        self.one_more_refused(11, 10, desk.say, "pledge 0 0 0 0 1 0")
        self.one_more_refused(13, 12, desk.say, "sell 0 0 1 1 0")
        self.one_more_refused(13, 12, desk.say, "sell 99 0 1 1 0")
        self.refused(NoClip, desk.say, "shear 0 0 1000")
        self.refused(NoPromise, desk.say, "pledge 0 0 0 0 0 0")
        self.assertEqual(answers_of(desk), wanted)


class Own(Case):
    """Point 2."""

    def test_asked_again_the_same_is_answered(self):
        for book in MANY[:20]:
            desk = desk_of(book)
            self.assertEqual(answers_of(desk), answers_of(desk))

    def test_two_desks_by_turns(self):
        one, other = Desk(), Desk()
        first, second = deeds_of(SAMPLE, Dice(95)), deeds_of(TURNS, Dice(96))
        for deed, late in itertools.zip_longest(first, second):
            before = answers_of(other)
            if deed:
                one.say(line_of(*deed))
            self.assertEqual(answers_of(other), before)
            if late:
                other.say(line_of(*late))
        wanted = answers_of(other)
        self.assertEqual(wanted[:22], answers_by_words(TURNS, None)[:22])
        self.assertEqual(answers_of(one)[:22], answers_by_words(SAMPLE, None)[:22])
        for _ in first:
            one.say("undo")
            self.assertEqual(answers_of(other), wanted)
        self.refused(NoDeed, one.say, "undo")
        self.assertEqual(answers_of(Desk()), [None] * 20 + ["none", "0", "none"])


if __name__ == "__main__":
    unittest.main()
