"""Sacks parted by weights."""

from woolyears.errors import NoNumber, NoWeights
from woolyears.wholes import are_wholes, is_tuple_of, is_whole_from

MOST_WEIGHTS = 80
MOST_WEIGHT = 99


def are_weights(thing):
    return is_tuple_of(thing, 1, MOST_WEIGHTS) and all([is_whole_from(part, 1, MOST_WEIGHT) for part in thing])


def refuse_unpartable(sacks, weights):
    # How many sacks may be parted hangs on the weights: they are looked at first.
    if not are_weights(weights):
        raise NoWeights("these are no weights")
    if not is_whole_from(sacks, 0, sum(weights)):
        raise NoNumber("so many sacks can't be parted by these weights")


def places_by_rest(rests):
    """The places of the rests, the greatest rest first, of equal ones the one that stands ahead."""
    ranked = sorted([(-rest, at) for at, rest in enumerate(rests)])
    return [at for minus, at in ranked]


def parts_of(sacks, weights):
    """The tuple of what each weight gets, of however many sacks."""
    together = sum(weights)
    parts = [sacks * weight // together for weight in weights]
    rests = [sacks * weight % together for weight in weights]
    left = sacks - sum(parts)
    for at in places_by_rest(rests)[:left]:
        parts[at] += 1
    return tuple(parts)


def parted(sacks, weights):
    refuse_unpartable(sacks, weights)
    return parts_of(sacks, weights)


def is_fair(sacks, weights, thing):
    refuse_unpartable(sacks, weights)
    if not are_wholes(thing, len(weights)) or sum(thing) != sacks:
        return False
    together = sum(weights)
    return all([abs(part * together - sacks * weight) < together for part, weight in zip(thing, weights)])
