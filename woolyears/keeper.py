"""A keeper, which is told clips, promises and sales one by one."""

from woolyears.books import (
    MOST_CLIPS, MOST_PROMISES, MOST_SALES, is_clip, is_promise, refuse_one_more, sale_holds,
)
from woolyears.errors import NoClip, NoDeed, NoPromise, NoSale
from woolyears.giving import gifts_by_year, refuse_no_year_of, sacks_of
from woolyears.owing import owed_behind
from woolyears.wholes import are_wholes


def first_unlike(before, after):
    """The least year whose gifts are other ones, or None."""
    # A year that wasn't there yet had no gifts.
    ahead = before + [[]] * (len(after) - len(before))
    for year, (old, new) in enumerate(zip(ahead, after)):
        if old != new:
            return year
    return None


class Keeper:
    """Clips, promises and sales told by turns, and what they come to at any time."""

    def __init__(self):
        # What there was ahead of each deed that stands, in order; the last is what there is.
        self.stages = [((), (), ())]

    def book_now(self):
        return self.stages[-1]

    def shear(self, clip):
        if not is_clip(clip):
            raise NoClip("this is no clip")
        clips, promises, sales = self.book_now()
        refuse_one_more(clips, MOST_CLIPS)
        self.stages.append((clips + (clip,), promises, sales))

    def pledge(self, promise):
        if not is_promise(promise):
            raise NoPromise("this is no promise")
        clips, promises, sales = self.book_now()
        refuse_one_more(promises, MOST_PROMISES)
        self.stages.append((clips, promises + (promise,), sales))
        return len(promises)

    def sell(self, sale):
        clips, promises, sales = self.book_now()
        refuse_one_more(sales, MOST_SALES)
        if not are_wholes(sale, 5) or not sale_holds(promises, sales, sale):
            raise NoSale("this is no sale that holds")
        self.stages.append((clips, promises, sales + (sale,)))

    def undo(self):
        if len(self.stages) == 1:
            raise NoDeed("no deed stands")
        self.stages.pop()

    def gifts_of(self, year):
        book = self.book_now()
        refuse_no_year_of(book[0], year)
        return gifts_by_year(book)[year]

    def owed_now(self):
        book = self.book_now()
        return owed_behind(book, len(book[0]) - 1) if book[0] else []

    def lack_now(self):
        return sacks_of(self.owed_now())

    def turned(self):
        if len(self.stages) == 1:
            return None
        return first_unlike(gifts_by_year(self.stages[-2]), gifts_by_year(self.stages[-1]))
