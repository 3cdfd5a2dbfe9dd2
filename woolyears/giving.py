"""Each year's wool given out: who gets what, and what is left."""

from woolyears.books import SORTS, held_in, refuse_no_book
from woolyears.errors import NoYear
from woolyears.parting import parted
from woolyears.wholes import is_whole_from

# Claims, gifts and what is owed are rows (due, promise, holder, sacks).


def sacks_of(rows):
    return sum([sacks for due, number, holder, sacks in rows])


def claims_in(promises, sales, sort, year):
    """The claims of a year on promises of a sort, in order of promise, then of holder."""
    claims = []
    for number, promise in enumerate(promises):
        if promise[1] == sort:
            held = held_in(promises, sales, number, year)
            claims += [(year, number, holder, sacks) for holder, sacks in enumerate(held) if sacks > 0]
    return claims


def shares_of(wool, claims):
    """What each claim of the year gets: all, or where there isn't enough its share."""
    weights = tuple([sacks for due, number, holder, sacks in claims])
    return weights if sum(weights) <= wool else parted(wool, weights)


def made_good(wool, owed):
    """What each of the claims of earlier years gets, the first of them first, each as far as it goes."""
    shares = []
    left = wool
    for due, number, holder, sacks in owed:
        share = min(sacks, left)
        shares.append(share)
        left -= share
    return shares


def sort_given(wool, claims, owed):
    """What is given of one sort, and what is owed on it behind that."""
    shares = list(shares_of(wool, claims))
    rows = claims + owed
    shares += made_good(wool - sum(shares), owed)
    gifts = [(due, number, holder, share) for (due, number, holder, sacks), share in zip(rows, shares) if share > 0]
    lacking = [
        (due, number, holder, sacks - share)
        for (due, number, holder, sacks), share in zip(rows, shares)
        if sacks > share
    ]
    return gifts, lacking


def year_given(book, year, owed):
    """A year's gifts, what is owed behind them, and what is left behind each sort.

    Handed in is what is owed of the years ahead. The clips may be more, and greater, than a book's.
    """
    clips, promises, sales = book
    gifts = []
    lacking = []
    left = []
    down = 0
    for sort in range(SORTS):
        wool = clips[year][sort] + down
        claims = claims_in(promises, sales, sort, year)
        ahead = [row for row in owed if promises[row[1]][1] == sort]
        given, lacked = sort_given(wool, claims, ahead)
        down = wool - sacks_of(given)
        gifts += given
        lacking += lacked
        left.append(down)
    return sorted(gifts), sorted(lacking), tuple(left)


def years_given(book, year):
    """The list of what year_given tells of each year from 0 to that one."""
    years = []
    owed = []
    for at in range(year + 1):
        gifts, owed, left = year_given(book, at, owed)
        years.append((gifts, owed, left))
    return years


def gifts_by_year(book):
    """The list of the gifts of each year of the clips, of which there may be none."""
    return [gifts for gifts, owed, left in years_given(book, len(book[0]) - 1)]


def refuse_no_year_of(clips, year):
    if not is_whole_from(year, 0, len(clips) - 1):
        raise NoYear("this is no year of the clips")


def refuse_no_year(book, year):
    """Refuses what is no book, then what is no year of its clips."""
    refuse_no_book(book)
    refuse_no_year_of(book[0], year)


def gifts_in(book, year):
    refuse_no_year(book, year)
    gifts, owed, left = years_given(book, year)[year]
    return gifts


def left_in(book, year):
    refuse_no_year(book, year)
    gifts, owed, left = years_given(book, year)[year]
    return left
