"""Clips, promises, sales: the books, and who has sacks of a promise."""

from woolyears.errors import NoBook, NoClips, NoNumber, NoPromises, NoSales, NoYear, TooMany
from woolyears.wholes import are_wholes, is_tuple_of, is_whole_from

SORTS = 3
HOLDERS = 8
LAST_YEAR = 19
MOST_CLIPS = 20
MOST_PROMISES = 10
MOST_SALES = 12
MOST_WOOL = 999
MOST_SACKS = 99
MOST_PRICE = 1000000


def is_clip(thing):
    """Whether it is what one year gives: a number of sacks for each sort."""
    return are_wholes(thing, SORTS) and all([0 <= sacks <= MOST_WOOL for sacks in thing])


def are_clips(thing):
    return is_tuple_of(thing, 1, MOST_CLIPS) and all([is_clip(part) for part in thing])


def refuse_no_clips(thing):
    if not are_clips(thing):
        raise NoClips("these are no clips")


def is_promise(thing):
    if not are_wholes(thing, 6):
        return False
    holder, sort, first, last, sacks, price = thing
    return (
        0 <= holder < HOLDERS
        and 0 <= sort < SORTS
        and 0 <= first <= last <= LAST_YEAR
        and 1 <= sacks <= MOST_SACKS
        and 0 <= price <= MOST_PRICE
    )


def are_promises(thing):
    return is_tuple_of(thing, 0, MOST_PROMISES) and all([is_promise(part) for part in thing])


def are_sales(thing):
    """Whether they have the form of sales; whether they hold hangs on the promises."""
    return is_tuple_of(thing, 0, MOST_SALES) and all([are_wholes(part, 5) for part in thing])


def refuse_one_more(rows, most):
    """Refuses that one is put behind rows that are as many as there may be."""
    if len(rows) >= most:
        raise TooMany(len(rows) + 1, most)


def held_in(promises, sales, number, year):
    """The list of how many sacks of a promise each holder has in a year, by sales that hold."""
    holder, sort, first, last, sacks, price = promises[number]
    held = [0] * HOLDERS
    if not first <= year <= last:
        return held
    held[holder] = sacks
    for promise, seller, buyer, sold, since in sales:
        if promise == number and since <= year:
            held[seller] -= sold
            held[buyer] += sold
    return held


def is_sale_between(promises, sale):
    """Whether a sale names a promise, two unlike holders, sacks and a year of that promise."""
    number, seller, buyer, sacks, year = sale
    if not 0 <= number < len(promises):
        return False
    holder, sort, first, last, due, price = promises[number]
    return (
        0 <= seller < HOLDERS
        and 0 <= buyer < HOLDERS
        and seller != buyer
        and 1 <= sacks <= MOST_SACKS
        and first <= year <= last
    )


def sale_holds(promises, ahead, sale):
    """Whether a sale holds behind those ahead of it, which all hold."""
    if not is_sale_between(promises, sale):
        return False
    number, seller, buyer, sacks, year = sale
    # A sale ahead may begin in a later year, so the first year alone doesn't tell.
    last = promises[number][3]
    return all([held_in(promises, ahead, number, at)[seller] >= sacks for at in range(year, last + 1)])


def first_unheld(promises, sales):
    if not are_promises(promises):
        raise NoPromises("these are no promises")
    if not are_sales(sales):
        raise NoSales("these are no sales")
    for at, sale in enumerate(sales):
        if not sale_holds(promises, sales[:at], sale):
            return at
    return None


def is_book(thing):
    if not is_tuple_of(thing, 3, 3):
        return False
    clips, promises, sales = thing
    return (
        are_clips(clips)
        and are_promises(promises)
        and are_sales(sales)
        and first_unheld(promises, sales) is None
    )


def refuse_no_book(thing):
    if not is_book(thing):
        raise NoBook("this is no book")


def holdings(book, number, year):
    refuse_no_book(book)
    clips, promises, sales = book
    if not is_whole_from(number, 0, len(promises) - 1):
        raise NoNumber("this is no number of a promise")
    if not is_whole_from(year, 0, LAST_YEAR):
        raise NoYear("this is no year")
    held = held_in(promises, sales, number, year)
    return [(holder, sacks) for holder, sacks in enumerate(held) if sacks > 0]
