"""Books written as texts, and read."""

from woolyears.books import is_book, refuse_no_book
from woolyears.errors import NoText

FIGURES = "0123456789"
MOST_FIGURES = 30
NONE_THERE = "-"


def is_number(word):
    """Whether a word is a number in figures, without a nought ahead but 0 itself."""
    return (
        1 <= len(word) <= MOST_FIGURES
        and all([sign in FIGURES for sign in word])
        and (word == "0" or word[0] != "0")
    )


def row_text(row, sign):
    return sign.join([str(number) for number in row])


def rows_text(rows, sign, without):
    """The rows with blanks between, or what stands where there are none."""
    return " ".join([row_text(row, sign) for row in rows]) if rows else without


def book_text(book):
    refuse_no_book(book)
    clips, promises, sales = book
    lines = [rows_text(clips, "/", NONE_THERE), rows_text(promises, ",", NONE_THERE), rows_text(sales, ",", NONE_THERE)]
    return "\n".join(lines)


def row_read(word, sign):
    numbers = word.split(sign)
    if not all([is_number(number) for number in numbers]):
        raise NoText("this isn't written as a book is")
    return tuple([int(number) for number in numbers])


def rows_read(line, sign):
    return () if line == NONE_THERE else tuple([row_read(word, sign) for word in line.split(" ")])


def read_book(text):
    if not isinstance(text, str) or text.count("\n") != 2:
        raise NoText("this is no text of three lines")
    clips, promises, sales = text.split("\n")
    book = (rows_read(clips, "/"), rows_read(promises, ","), rows_read(sales, ","))
    if not is_book(book):
        raise NoText("what is written here is no book")
    return book
