"""What moves: by a late promise, by sheep that die, and by a flock that two houses share."""

from woolyears.books import MOST_PROMISES, SORTS, is_promise, refuse_no_book, refuse_no_clips, refuse_one_more
from woolyears.errors import NoNumber, NoPromise, NoSort, NoWeights
from woolyears.giving import gifts_by_year, refuse_no_year, refuse_no_year_of
from woolyears.owing import by_holder, owed_behind
from woolyears.parting import are_weights, parts_of
from woolyears.wholes import is_whole_from


def sacks_by_claim(gifts):
    return {(due, number, holder): sacks for due, number, holder, sacks in gifts}


def moves_in(year, before, after):
    """The rows (year, due, promise, holder, before, after) of all gifts of a year that are other ones."""
    old = sacks_by_claim(before)
    new = sacks_by_claim(after)
    moves = []
    for claim in sorted(set(old) | set(new)):
        sacks = (old.get(claim, 0), new.get(claim, 0))
        if sacks[0] != sacks[1]:
            moves.append((year,) + claim + sacks)
    return moves


def moved_by(book, promise):
    refuse_no_book(book)
    if not is_promise(promise):
        raise NoPromise("this is no promise")
    clips, promises, sales = book
    refuse_one_more(promises, MOST_PROMISES)
    late = (clips, promises + (promise,), sales)
    moves = []
    for year, (before, after) in enumerate(zip(gifts_by_year(book), gifts_by_year(late))):
        moves += moves_in(year, before, after)
    return moves


def refuse_no_loss(sort, part):
    if not is_whole_from(sort, 0, SORTS - 1):
        raise NoSort("this is no sort")
    if not is_whole_from(part, 0, 100):
        raise NoNumber("this is no part in hundredths")


def clip_less(clip, sort, part):
    return tuple([sacks * (100 - part) // 100 if at == sort else sacks for at, sacks in enumerate(clip)])


def clips_less(clips, year, sort, part):
    return clips[:year] + tuple([clip_less(clip, sort, part) for clip in clips[year:]])


def lessened(clips, year, sort, part):
    refuse_no_clips(clips)
    refuse_no_year_of(clips, year)
    refuse_no_loss(sort, part)
    return clips_less(clips, year, sort, part)


def owed_at_last(book):
    """The list of how many sacks are owed to each holder behind the last year."""
    return by_holder(owed_behind(book, len(book[0]) - 1))


def borne_by(book, year, sort, part):
    refuse_no_year(book, year)
    refuse_no_loss(sort, part)
    clips, promises, sales = book
    poorer = (clips_less(clips, year, sort, part), promises, sales)
    return [after - before for before, after in zip(owed_at_last(book), owed_at_last(poorer))]


def shared_by(clips, one, other):
    refuse_no_clips(clips)
    weights = (one, other)
    if not are_weights(weights):
        raise NoWeights("these are no two weights")
    shares = [[parts_of(sacks, weights) for sacks in clip] for clip in clips]
    return tuple([tuple([tuple([parts[house] for parts in row]) for row in shares]) for house in range(2)])
