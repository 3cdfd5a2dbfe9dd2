"""Clips that grow, by which year all is met, and which promise is one too many."""

from woolyears.books import refuse_no_book, refuse_no_clips
from woolyears.errors import NoGrowth, NoNumber
from woolyears.giving import years_given
from woolyears.wholes import is_whole_from

LEAST_GROWTH = -100
MOST_GROWTH = 100
MOST_YEARS = 100


def refuse_no_growth(thing):
    if not is_whole_from(thing, LEAST_GROWTH, MOST_GROWTH):
        raise NoGrowth("this is no growth")


def grown(clips, growth, years):
    rows = list(clips)
    while len(rows) < years:
        rows.append(tuple([sacks * (100 + growth) // 100 for sacks in rows[-1]]))
    return tuple(rows)


def grown_to(clips, growth, years):
    refuse_no_clips(clips)
    refuse_no_growth(growth)
    if not is_whole_from(years, len(clips), MOST_YEARS):
        raise NoNumber("the clips can't grow to so many years")
    return grown(clips, growth, years)


def year_of_all(book, growth):
    """The least year, no less than the last one of the clips, by which all is met, or None."""
    clips, promises, sales = book
    least = max([len(clips) - 1] + [promise[3] for promise in promises])
    years = years_given((grown(clips, growth, MOST_YEARS), promises, sales), MOST_YEARS - 1)
    for at, (gifts, owed, left) in enumerate(years):
        if at >= least and not owed:
            return at
    return None


def book_to(book, number):
    """The book with the promises from 0 to that number and the sales of these alone."""
    clips, promises, sales = book
    return clips, promises[:number + 1], tuple([sale for sale in sales if sale[0] <= number])


def met_by(book, growth):
    refuse_no_book(book)
    refuse_no_growth(growth)
    return year_of_all(book, growth)


def too_many(book, growth):
    refuse_no_book(book)
    refuse_no_growth(growth)
    clips, promises, sales = book
    for number in range(len(promises)):
        if year_of_all(book_to(book, number), growth) is None:
            return number
    return None
