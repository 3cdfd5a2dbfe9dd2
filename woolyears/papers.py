"""Papers, which show that no giving leaves less owed."""

from woolyears.books import SORTS
from woolyears.errors import NoPaper
from woolyears.giving import claims_in, refuse_no_year, sacks_of
from woolyears.owing import owed_behind
from woolyears.wholes import are_wholes


def from_each_on(numbers):
    """The list of what the numbers from each place on come to; 0 behind the last of them."""
    sums = [0]
    for number in reversed(numbers):
        sums.append(sums[-1] + number)
    return sums[::-1]


def claimed_since(book, year):
    """Of each sort a list: what all claims come to, from each year on to this one."""
    clips, promises, sales = book
    return [
        from_each_on([sacks_of(claims_in(promises, sales, sort, at)) for at in range(year + 1)])
        for sort in range(SORTS)
    ]


def wool_since(book, year):
    """Of each sort a list: what all wool comes to, from each year on to this one."""
    clips, promises, sales = book
    return [from_each_on([clips[at][sort] for at in range(year + 1)]) for sort in range(SORTS)]


def shown(claimed, wool, paper):
    """What a paper shows, by the lists of claims and of wool."""
    claims = sum([claimed[sort][since] for sort, since in enumerate(paper)])
    # Wool serves lesser sorts too, so it counts from the earliest claim on that it may serve.
    return claims - sum([wool[sort][min(paper[sort:])] for sort in range(SORTS)])


def is_paper_for(year, thing):
    return are_wholes(thing, SORTS) and all([0 <= since <= year + 1 for since in thing])


def papers_for(year):
    """All papers for a year, rising."""
    return [
        (best, middle, least)
        for best in range(year + 2)
        for middle in range(year + 2)
        for least in range(year + 2)
    ]


def lack_by(book, year):
    refuse_no_year(book, year)
    return sacks_of(owed_behind(book, year))


def is_paper(book, year, thing):
    refuse_no_year(book, year)
    return is_paper_for(year, thing)


def shown_by(book, year, paper):
    refuse_no_year(book, year)
    if not is_paper_for(year, paper):
        raise NoPaper("this is no paper for the year")
    return shown(claimed_since(book, year), wool_since(book, year), paper)


def paper_of(book, year):
    lack = lack_by(book, year)
    claimed = claimed_since(book, year)
    wool = wool_since(book, year)
    # There always is one: a giving as good as any other leaves no more owed than some paper shows.
    return [paper for paper in papers_for(year) if shown(claimed, wool, paper) == lack][0]
