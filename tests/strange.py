"""For all tests: things of anything, right things with one part spoiled, and how refusals are looked at."""

import unittest

HUGE = 10**30 - 1

STRANGE = (
    None, True, False, 0, 1, -1, 7, HUGE, -HUGE, "", "0", "(1, 2, 3)", "a\tb\n~ ",
    [], {}, [()], [[]], ([],), ({},), (None,), (True,), ("",), {0: 1}, {"a": [1]}, {(1, 2): ()},
    [1, 2, 3], (1, 2, 3), ((1, 2), (3, 4)), [[1, 2, 3]], ((((((1,),),),),),), "x" * 900, [0] * 890, (0,) * 890,
)


def wrong_kinds(thing):
    """Things of another kind than a right tuple or a right whole number."""
    if isinstance(thing, tuple):
        return [None, True, False, 3, "a", list(thing), {}, dict(enumerate(thing))]
    return [None, True, False, "", str(thing), [thing], (thing,), {thing: thing}]


def put(thing, at, part):
    return thing[:at] + (part,) + thing[at + 1:]


def spoiled(thing):
    """All copies of a right thing with one part, at any depth, of a wrong kind."""
    found = list(wrong_kinds(thing))
    if isinstance(thing, tuple):
        for at, part in enumerate(thing):
            found += [put(thing, at, wrong) for wrong in spoiled(part)]
    return found


def resized(row):
    """A row of a set length with a part too few, too many, or none at all."""
    return [(), row[:-1], row[1:], row + (row[-1],), row + (None,), row + row]


class Case(unittest.TestCase):
    def refused(self, kind, asked, *handed):
        """The refusal is of that very class, not only of one above it."""
        with self.assertRaises(ValueError, msg=repr(handed)[:300]) as caught:
            asked(*handed)
        self.assertIs(type(caught.exception), kind, repr(handed)[:300])

    def all_told(self, wanted, asked, things):
        for thing in things:
            self.assertIs(asked(thing), wanted, repr(thing)[:300])
