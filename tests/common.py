"""For all tests: things of anything, right things with one part spoiled, books to go through, how a test looks at
refusals and at what is told, and another reckoning of what the program tells, by the document's words."""

import copy
import time
import unittest
from fractions import Fraction

from woolyears.books import first_unheld
from woolyears.errors import NoBook, NoYear, TooMany

HUGE = 10**30 - 1
# All signs that a text may have.
SIGNS = "".join(chr(code) for code in range(32, 127) if chr(code) != chr(37)) + "\t\n"

STRANGE = (
    None, True, False, 0, 1, -1, 7, HUGE, -HUGE, "", "0", "(1, 2, 3)", "a\tb\n~ ",
    [], {}, [()], [[]], ([],), ({},), (None,), (True,), ("",), {0: 1}, {"a": [1]}, {(1, 2): ()},
    [1, 2, 3], (1, 2, 3), ((1, 2), (3, 4)), [[1, 2, 3]], ((((((1,),),),),),), "x" * 900, [0] * 890, (0,) * 890,
)


def wrong_kinds(thing):
    """Things of another kind than a right tuple or a right whole number."""
    if isinstance(thing, tuple):
        return [None, True, False, 3, "a", list(thing), {}, dict(enumerate(thing))]
    return [None, True, False, "", str(thing), [thing], (thing,), {thing: thing}]


def put(thing, at, part):
    return thing[:at] + (part,) + thing[at + 1:]


def spoiled(thing):
    """All copies of a right thing with one part, at any depth, of a wrong kind."""
    found = list(wrong_kinds(thing))
    if isinstance(thing, tuple):
        for at, part in enumerate(thing):
            found += [put(thing, at, wrong) for wrong in spoiled(part)]
    return found


def resized(row):
    """A row of a set length with a part too few, too many, or none at all."""
    return [(), row[:-1], row[1:], row + (row[-1],), row + (None,), row + row]


def no_whole_from(least, most):
    """Things that are no whole number from the least to the most, those just beyond among them."""
    wrong = [thing for thing in STRANGE if type(thing) is not int or not least <= thing <= most]
    return wrong + [least - 2, least - 1, most + 1, most + 2]


def one_sign_off(text):
    """All texts that a text becomes by one sign put in, set or left out."""
    found = [text[:at] + sign + text[at:] for at in range(len(text) + 1) for sign in SIGNS]
    found += [text[:at] + sign + text[at + 1:] for at in range(len(text)) for sign in SIGNS]
    found += [text[:at] + text[at + 1:] for at in range(len(text))]
    return [other for other in found if other != text]


# Of several years, sorts and sales; the third promise lies behind all clips.
SAMPLE = (
    ((4, 1, 2), (0, 3, 9), (12, 0, 1)),
    ((0, 0, 0, 4, 6, 250), (5, 1, 1, 2, 3, 40), (7, 2, 19, 19, 1, 0), (3, 2, 0, 1, 8, 1000000)),
    ((0, 0, 1, 2, 1), (0, 1, 2, 1, 2), (3, 3, 0, 8, 1)),
)
# A short year, one that is even but for the best sort, a rich one.
TURNS = (
    ((4, 0, 2), (6, 3, 3), (9, 6, 8)),
    ((0, 0, 0, 2, 6, 10), (1, 0, 0, 1, 2, 20), (2, 1, 0, 2, 3, 30), (3, 2, 1, 2, 4, 40)),
    (),
)
UNHELD = SAMPLE[:2] + (((0, 0, 1, 7, 1),),)
NO_BOOKS = list(STRANGE) + spoiled(SAMPLE) + resized(SAMPLE) + [UNHELD, put(SAMPLE, 0, ()), put(SAMPLE, 1, None)]
SOME_CLIPS = ((10, 3, 7), (99, 100, 101), (1, 0, 999))
NO_CLIPS = list(STRANGE) + spoiled(SOME_CLIPS) + [(), SOME_CLIPS * 7, ((3, 0, 1000),), ((-1, 0, 0),)]
NO_CLIPS += [put(SOME_CLIPS, 1, row) for row in resized(SOME_CLIPS[1])]
# Twenty years, ten promises, twelve sales, and wool so scarce that nearly all is owed to the end.
GREATEST = (
    tuple((year % 2, 1, 2 - year % 3) for year in range(20)),
    tuple((number % 8, number % 3, 0, 19, 99, 1000000) for number in range(10)),
    tuple((at % 10, at % 10 % 8, (at + 3 + at // 10) % 8, 20 + at, at) for at in range(12)),
)


class Case(unittest.TestCase):
    def refused(self, kind, asked, *handed):
        """The refusal is of that very class, not only of one above it."""
        with self.assertRaises(ValueError, msg=repr(handed)[:300]) as caught:
            asked(*handed)
        self.assertIs(type(caught.exception), kind, repr(handed)[:300])

    def one_more_refused(self, many, most, asked, *handed):
        """TooMany, and no class under it, with these numbers."""
        with self.assertRaises(ValueError, msg=repr(handed)[:300]) as caught:
            asked(*handed)
        self.assertIs(type(caught.exception), TooMany, repr(handed)[:300])
        self.assertEqual((caught.exception.many, caught.exception.most), (many, most))

    def all_told(self, wanted, asked, things):
        for thing in things:
            self.assertIs(asked(thing), wanted, repr(thing)[:300])

    def refuses_books(self, asked, *rest):
        for thing in NO_BOOKS:
            self.refused(NoBook, asked, thing, *rest)

    def refuses_years(self, asked, *rest):
        """Each year of the clips is one, what is none is refused, whatever is handed in behind it."""
        for many in (1, 2, 3):
            book = put(SAMPLE, 0, SAMPLE[0][:many])
            for year in no_whole_from(0, many - 1):
                self.refused(NoYear, asked, book, year, *rest)
        full = put(SAMPLE, 0, SAMPLE[0][:1] * 20)
        for year in (-1, 20, 21, HUGE, True, None):
            self.refused(NoYear, asked, full, year, *rest)

    def own_list(self, asked, *handed):
        """What is told is a list that may be changed, and nothing handed in is."""
        kept = copy.deepcopy(handed)
        first, other = asked(*handed), asked(*handed)
        wanted = list(first)
        self.assertIs(type(first), list)
        self.assertEqual(other, wanted)
        self.assertIsNot(first, other)
        first.append(None)
        self.assertEqual(other, wanted)
        other.clear()
        self.assertEqual(asked(*handed), wanted)
        self.assertEqual(handed, kept)

    def soon(self, asked, *handed):
        began = time.perf_counter()
        told = asked(*handed)
        self.assertLess(time.perf_counter() - began, 5)
        return told


def tables_behind(promises, sales):
    """What each has of each promise in each year, and the first sale that doesn't hold."""
    tables = []
    for holder, _, first, last, sacks, _ in promises:
        tables.append({year: {holder: sacks} for year in range(first, last + 1)})
    for at, (number, seller, buyer, sacks, year) in enumerate(sales):
        table = tables[number]
        rows = [table[late] for late in table if late >= year]
        if year not in table or seller == buyer or any(row.get(seller, 0) < sacks for row in rows):
            return tables, at
        for row in rows:
            row[seller] -= sacks
            row[buyer] = row.get(buyer, 0) + sacks
    return tables, None


def parted_by_words(sacks, weights):
    """Sack by sack to the greatest rest, looked for anew each time."""
    shares = [Fraction(sacks * weight, sum(weights)) for weight in weights]
    parts = [int(share) for share in shares]
    rests = [share - part for share, part in zip(shares, parts)]
    while sum(parts) < sacks:
        at = rests.index(max(rests))
        parts[at] += 1
        rests[at] = Fraction(-1)
    return tuple(parts)


def claims_by_words(promises, sales, year):
    """The claims of a year, a dict of sacks by (year, promise, holder), in order."""
    tables, _ = tables_behind(promises, sales)
    claims = {}
    for number, table in enumerate(tables):
        for holder, sacks in sorted(table.get(year, {}).items()):
            if sacks:
                claims[year, number, holder] = sacks
    return claims


def rows_of(sacks_of):
    return sorted((*claim, sacks) for claim, sacks in sacks_of.items() if sacks)


def given_by_words(clips, promises, sales):
    """For each year its gifts, what is owed behind it, and what is left behind each sort; of clips of any length."""
    owed, years = {}, []
    for year, clip in enumerate(clips):
        due = claims_by_words(promises, sales, year)
        gifts, left, wool = {}, [], 0
        for sort in range(3):
            wool += clip[sort]
            claims = {claim: sacks for claim, sacks in due.items() if promises[claim[1]][1] == sort}
            enough = sum(claims.values()) <= wool
            shares = claims.values() if enough else parted_by_words(wool, tuple(claims.values()))
            given = dict(zip(claims, shares))
            wool -= sum(given.values())
            for claim in sorted(claim for claim in owed if promises[claim[1]][1] == sort):
                given[claim] = min(owed[claim], wool)
                wool -= given[claim]
            owed.update(claims)
            for claim, share in given.items():
                owed[claim] -= share
            gifts.update(given)
            left.append(wool)
        years.append((rows_of(gifts), rows_of(owed), tuple(left)))
        owed = {claim: sacks for claim, sacks in owed.items() if sacks}
    return years


class Dice:
    """Numbers by a rule, the same ones each time and under each Python."""

    def __init__(self, seed):
        self.state = seed

    def below(self, many):
        self.state = (self.state * 1103515245 + 12345) % 2**31
        return (self.state >> 8) % many

    def one_of(self, things):
        return things[self.below(len(things))]


def some_promises(dice, many, years, most):
    promises = []
    for _ in range(many):
        first = dice.below(min(20, years + 1))
        last = min(19, first + dice.below(years + 2))
        promises.append((dice.below(8), dice.below(3), first, last, 1 + dice.below(most), dice.below(500)))
    return tuple(promises)


def some_sales(dice, promises, many):
    """As many sales as are found that hold, many at most."""
    sales = ()
    for _ in range(8 * many if promises else 0):
        number = dice.below(len(promises))
        holder, _, first, last, sacks, _ = promises[number]
        seller = dice.one_of((holder, dice.below(8)))
        sale = (number, seller, dice.below(8), 1 + dice.below(sacks), first + dice.below(last - first + 1))
        if len(sales) < many and first_unheld(promises, sales + (sale,)) is None:
            sales += (sale,)
    return sales


def some_clips(dice, promises, years):
    """Short years, even ones and rich ones, by turns and by sort."""
    clips = []
    for year in range(years):
        clip = []
        for sort in range(3):
            due = sum(row[4] for row in promises if row[1] == sort and row[2] <= year <= row[3])
            clip.append(min(999, dice.one_of((0, due // 2, due, due + 1, dice.below(2 * due + 2), due - due // 4))))
        clips.append(tuple(clip))
    return tuple(clips)


def some_books(seed, many, most_years=6, most_sacks=99):
    """Books of unlike sizes."""
    dice, books = Dice(seed), []
    for at in range(many):
        years = 1 + at % most_years
        promises = some_promises(dice, dice.one_of((at % 11, 10, 3)), years, dice.one_of((3, 12, most_sacks)))
        sales = some_sales(dice, promises, dice.one_of((0, 3, 12)))
        books.append((some_clips(dice, promises, years), promises, sales))
    return books


def deeds_of(book, dice):
    """The deeds, as names and what they are told, that make a book, in some order in which they may be told."""
    rows = {"shear": list(book[0]), "pledge": list(book[1]), "sell": list(book[2])}
    deeds, pledged = [], 0
    while any(rows.values()):
        may = [name for name in ("shear", "pledge") if rows[name]]
        if rows["sell"] and rows["sell"][0][0] < pledged:
            may.append("sell")
        name = dice.one_of(may)
        pledged += name == "pledge"
        deeds.append((name, rows[name].pop(0)))
    return deeds


def turned_by_words(before, after):
    """The least year whose gifts are other ones in one book than in the other; a book may have no clips here."""
    old = [year[0] for year in given_by_words(*before)]
    new = [year[0] for year in given_by_words(*after)]
    for year in range(max(len(old), len(new))):
        if (old[year:year + 1] or [[]]) != (new[year:year + 1] or [[]]):
            return year
    return None


def told_by_words(book, before):
    """All that a keeper tells of a book, and by the deed that led to it from the one before, None where none did."""
    years = given_by_words(*book)
    owed = years[-1][1] if years else []
    turned = None if before is None else turned_by_words(before, book)
    return book, [year[0] for year in years], owed, sum(row[3] for row in owed), turned
