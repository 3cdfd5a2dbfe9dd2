"""Books written and read: points 2, 90."""

import itertools
import re
import unittest

from tests.common import GREATEST, NO_BOOKS, SAMPLE, STRANGE, Case, one_sign_off, put, some_books
from woolyears.books import is_book
from woolyears.errors import NoBook, NoText
from woolyears.texts import book_text, read_book

MANY = some_books(90, 110) + some_books(91, 20, 20)
LEAST = (((0, 0, 0),), (), ())
MOST = (
    ((999, 999, 999),) * 20,
    tuple((7, 2, 0, 19, 99, 1000000) for _ in range(10)),
    tuple((9, 7 - at % 2, 6 + at % 2, 99, 19) for at in range(12)),
)
SAMPLE_TEXT = (
    "4/1/2 0/3/9 12/0/1\n"
    "0,0,0,4,6,250 5,1,1,2,3,40 7,2,19,19,1,0 3,2,0,1,8,1000000\n"
    "0,0,1,2,1 0,1,2,1,2 3,3,0,8,1"
)
SMALL = ("3/0/12 10/1/9\n0,0,0,1,10,20\n0,0,1,10,1", "0/0/0\n-\n-", "9/9/9\n1,1,1,19,2,0 1,1,1,1,1,1\n-")

NUMBER = "(?:0|[1-9][0-9]*)"
CLIPS = re.compile(f"{NUMBER}/{NUMBER}/{NUMBER}(?: {NUMBER}/{NUMBER}/{NUMBER})*")
ROW = NUMBER + f",{NUMBER}" * 5
PROMISES = re.compile(f"-|{ROW}(?: {ROW})*")
SALE = NUMBER + f",{NUMBER}" * 4
SALES = re.compile(f"-|{SALE}(?: {SALE})*")


def text_by_words(book):
    clips, promises, sales = book
    years = ["%d/%d/%d" % clip for clip in clips]
    rows = ["%d,%d,%d,%d,%d,%d" % promise for promise in promises] or ["-"]
    sold = ["%d,%d,%d,%d,%d" % sale for sale in sales] or ["-"]
    return " ".join(years) + "\n" + " ".join(rows) + "\n" + " ".join(sold)


def rows_by_words(line, sign):
    return tuple(tuple(int(n) for n in word.split(sign)) for word in line.split(" ") if word != "-")


def read_by_words(text):
    """The book that a text is, None where it is none."""
    lines = text.split("\n")
    if len(lines) != 3 or not all(form.fullmatch(line) for form, line in zip((CLIPS, PROMISES, SALES), lines)):
        return None
    book = tuple(rows_by_words(line, sign) for line, sign in zip(lines, "/,,"))
    return book if is_book(book) else None


class Written(Case):
    def test_a_book(self):
        self.assertEqual(book_text(SAMPLE), SAMPLE_TEXT)

    def test_as_the_document_shows(self):
        self.assertEqual(book_text((((3, 0, 12), (4, 1, 9)), (), ())), "3/0/12 4/1/9\n-\n-")

    def test_the_least(self):
        self.assertEqual(book_text(LEAST), "0/0/0\n-\n-")

    def test_promises_without_sales(self):
        self.assertEqual(book_text((((1, 2, 3),), ((7, 0, 19, 19, 1, 0),), ())), "1/2/3\n7,0,19,19,1,0\n-")

    def test_the_greatest(self):
        wanted = "\n".join([
            " ".join(["999/999/999"] * 20),
            " ".join(["7,2,0,19,99,1000000"] * 10),
            " ".join(["9,7,6,99,19", "9,6,7,99,19"] * 6),
        ])
        self.assertIs(is_book(MOST), True)
        self.assertEqual(self.soon(book_text, MOST), wanted)
        self.assertEqual(self.soon(book_text, GREATEST), text_by_words(GREATEST))

    def test_by_the_words(self):
        for book in MANY:
            told = book_text(book)
            self.assertEqual(told, text_by_words(book))
            self.assertIs(type(told), str)

    def test_unlike_books_have_unlike_texts(self):
        books = set(MANY)
        self.assertGreater(len(books), 100)
        self.assertEqual(len({book_text(book) for book in books}), len(books))

    def test_what_is_no_book(self):
        self.refuses_books(book_text)
        for thing in (SAMPLE_TEXT, ((), (), ()), put(MOST, 0, MOST[0] + MOST[0][:1]), put(MOST, 1, MOST[1] * 2)):
            self.refused(NoBook, book_text, thing)


class Read(Case):
    def test_what_was_written(self):
        for book in MANY + [SAMPLE, LEAST, MOST, GREATEST]:
            self.assertEqual(self.soon(read_book, book_text(book)), book)

    def test_a_text(self):
        self.assertEqual(read_book(SAMPLE_TEXT), SAMPLE)
        self.assertEqual(read_book("0/0/0\n-\n-"), LEAST)
        self.assertEqual(read_book("3/0/12 4/1/9\n-\n-"), (((3, 0, 12), (4, 1, 9)), (), ()))

    def test_kinds(self):
        for text in (SAMPLE_TEXT,) + SMALL:
            book = read_book(text)
            self.assertEqual((type(book), [type(part) for part in book]), (tuple, [tuple] * 3))
            self.assertEqual({type(row) for part in book for row in part}, {tuple})
            self.assertEqual({type(number) for part in book for row in part for number in row}, {int})

    def test_one_sign_off(self):
        read, refused = 0, 0
        for text in SMALL:
            for other in one_sign_off(text):
                wanted = read_by_words(other)
                if wanted is None:
                    self.refused(NoText, read_book, other)
                    refused += 1
                else:
                    self.assertEqual(read_book(other), wanted, other)
                    self.assertEqual(book_text(wanted), other)
                    read += 1
        self.assertGreater(read, 100)
        self.assertGreater(refused, 10000)

    def test_numbers_that_are_none_so_written(self):
        words = ("", "00", "01", "007", "+1", "-1", "-0", "1.0", "1_0", "0x1", "1e1", "a", " 1", "1 ", "\t1", "~", "1,")
        for word in words + ("0" * 30, "0" * 31, "1" * 31, "1" * 4301, "1/"):
            self.refused(NoText, read_book, f"{word}/0/0\n-\n-")
            self.refused(NoText, read_book, f"0/0/{word}\n-\n-")
            self.refused(NoText, read_book, f"9/9/9\n{word},1,1,9,1,1\n-")
            self.refused(NoText, read_book, f"9/9/9\n1,1,1,9,1,{word}\n-")
            self.refused(NoText, read_book, f"9/9/9\n1,1,1,9,1,1\n{word},1,0,1,1")
            self.refused(NoText, read_book, f"9/9/9\n1,1,1,9,1,1\n0,1,0,1,{word}")

    def test_numbers_out_of_their_bounds(self):
        for clip in ("1000/0/0", "0/1000/0", "0/0/1000", "1" * 30 + "/0/0"):
            self.refused(NoText, read_book, clip + "\n-\n-")
        for promise in ("8,0,0,0,1,0", "0,3,0,0,1,0", "0,0,20,20,1,0", "0,0,0,20,1,0", "0,0,1,0,1,0", "0,0,0,0,0,0",
                        "0,0,0,0,100,0", "0,0,0,0,1,1000001", "0,0,0,0,1," + "9" * 30):
            self.refused(NoText, read_book, f"0/0/0\n{promise}\n-")
        for sale in ("1,0,1,1,5", "0,8,1,1,5", "0,0,8,1,5", "0,0,0,1,5", "0,1,0,1,5", "0,0,1,0,5", "0,0,1,4,5",
                     "0,0,1,100,5", "0,0,1,1,4", "0,0,1,1,7"):
            self.refused(NoText, read_book, f"0/0/0\n0,0,5,6,3,0\n{sale}")
        self.assertEqual(read_book("0/0/0\n0,0,5,6,3,0\n0,0,1,3,5")[2], ((0, 0, 1, 3, 5),))

    def test_sales_that_do_not_hold(self):
        lines = "9/9/9\n0,0,0,3,5,1\n"
        self.assertEqual(len(read_book(lines + "0,0,1,3,0 0,1,2,3,0")[2]), 2)
        for sales in ("0,1,2,3,0 0,0,1,3,0", "0,0,1,3,0 0,0,2,3,0", "0,0,1,3,1 0,1,2,3,0"):
            self.refused(NoText, read_book, lines + sales)
        self.refused(NoText, read_book, "9/9/9\n-\n0,0,1,3,0")

    def test_too_few_and_too_many(self):
        rows = ("1/1/1", "0,0,0,19,99,1", "0,0,1,1,0")
        for counts in ((20, 10, 12), (1, 1, 0), (1, 0, 0)):
            text = "\n".join(" ".join([row] * many) or "-" for row, many in zip(rows, counts))
            self.assertEqual(tuple(len(part) for part in read_book(text)), counts)
        for counts in ((21, 10, 12), (20, 11, 12), (20, 10, 13), (0, 10, 12), (0, 0, 0), (1, 0, 1)):
            text = "\n".join(" ".join([row] * many) or "-" for row, many in zip(rows, counts))
            self.refused(NoText, read_book, text)

    def test_parts_too_few_or_too_many(self):
        for clip in ("1/1", "1/1/1/1", "1", "", "-", "1/1/1 1/1", "1,1,1"):
            self.refused(NoText, read_book, clip + "\n0,0,0,0,1,1\n0,0,1,1,0")
        for promise in ("0,0,0,0,1", "0,0,0,0,1,1,1", "0", "", "0/0/0/0/1/1", "0,0,0,0,1,1 0,0,0,0,1", "- -"):
            self.refused(NoText, read_book, f"1/1/1\n{promise}\n-")
        for sale in ("0,0,1,1", "0,0,1,1,0,0", "0", "", "0/0/1/1/0", "0,0,1,1,0 -", "- -", "--"):
            self.refused(NoText, read_book, f"1/1/1\n0,0,0,0,1,1\n{sale}")

    def test_blanks_tabs_and_line_ends_more(self):
        for sign in (" ", "\t", "\n", "\r", "\n\n", " \n", "-", ","):
            for other in (sign + SAMPLE_TEXT, SAMPLE_TEXT + sign, SAMPLE_TEXT.replace("\n", sign + "\n", 1)):
                self.refused(NoText, read_book, other)
            for between in (" " + sign, sign + " "):
                self.refused(NoText, read_book, SAMPLE_TEXT.replace(" ", between, 1))
        for sign in ("\t", "\n", "\r\n", "", "  ", ", "):
            self.refused(NoText, read_book, SAMPLE_TEXT.replace(" ", sign))
        for sign in ("\r\n", "\r", " ", "", "\n\n", "\t"):
            self.refused(NoText, read_book, SAMPLE_TEXT.replace("\n", sign))

    def test_lines_exchanged_left_out_or_twice(self):
        lines = SAMPLE_TEXT.split("\n")
        for many in range(5):
            for some in itertools.product(lines + ["-", ""], repeat=many):
                wanted = read_by_words("\n".join(some))
                if wanted is None:
                    self.refused(NoText, read_book, "\n".join(some))
                else:
                    self.assertEqual(read_book("\n".join(some)), wanted)
        for some in itertools.permutations(lines):
            if list(some) != lines:
                self.refused(NoText, read_book, "\n".join(some))

    def test_things_of_anything(self):
        own = [SAMPLE, [SAMPLE_TEXT], (SAMPLE_TEXT,), SAMPLE_TEXT.split("\n"), {SAMPLE_TEXT: 1}]
        for thing in list(STRANGE) + NO_BOOKS + own:
            kept = repr(thing)
            self.refused(NoText, read_book, thing)
            self.assertEqual(repr(thing), kept)


class Own(Case):
    """Point 2."""

    def test_asked_again_the_same_is_told(self):
        wanted = [book_text(book) for book in MANY]
        self.refused(NoBook, book_text, None)
        self.refused(NoText, read_book, "")
        self.assertEqual([book_text(book) for book in MANY], wanted)
        self.assertEqual([read_book(text) for text in wanted], MANY)
        self.assertEqual([read_book(text) for text in wanted], MANY)

    def test_nothing_handed_in_is_changed(self):
        for thing in NO_BOOKS:
            kept = repr(thing)
            self.refused(NoBook, book_text, thing)
            self.assertEqual(repr(thing), kept)


if __name__ == "__main__":
    unittest.main()
