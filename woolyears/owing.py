"""What is owed behind a year's giving, in sacks and in pence, and what was paid before."""

from woolyears.books import HOLDERS, SORTS, refuse_no_book
from woolyears.giving import claims_in, refuse_no_year, years_given


def owed_behind(book, year):
    gifts, owed, left = years_given(book, year)[year]
    return owed


def by_holder(rows):
    """The list of how many sacks of the rows are each holder's."""
    sums = [0] * HOLDERS
    for due, number, holder, sacks in rows:
        sums[holder] += sacks
    return sums


def claims_to(book, year):
    clips, promises, sales = book
    claims = []
    for at in range(year + 1):
        for sort in range(SORTS):
            claims += claims_in(promises, sales, sort, at)
    return claims


def owed_by(book, year):
    refuse_no_year(book, year)
    return owed_behind(book, year)


def sums_by(book, year):
    refuse_no_year(book, year)
    given = []
    for gifts, owed, left in years_given(book, year):
        given += gifts
    return list(zip(by_holder(claims_to(book, year)), by_holder(given), by_holder(owed_behind(book, year))))


def pence_owed(book, year):
    refuse_no_year(book, year)
    clips, promises, sales = book
    pence = [0] * HOLDERS
    for due, number, holder, sacks in owed_behind(book, year):
        pence[holder] += sacks * promises[number][5]
    return pence


def paid_before(book):
    refuse_no_book(book)
    clips, promises, sales = book
    paid = [0] * HOLDERS
    for holder, sort, first, last, sacks, price in promises:
        paid[holder] += sacks * (last - first + 1) * price
    return paid
