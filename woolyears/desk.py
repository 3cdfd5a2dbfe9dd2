"""A desk, which is told lines and answers with texts."""

from woolyears.errors import NoLine
from woolyears.keeper import Keeper
from woolyears.texts import is_number, rows_text

# How many numbers stand behind each first word of a line.
NUMBERS_BEHIND = {"shear": 3, "pledge": 6, "sell": 5, "undo": 0, "gifts": 1, "owed": 0, "lack": 0, "turned": 0}


def told_shear(keeper, numbers):
    keeper.shear(numbers)
    return "ok"


def told_pledge(keeper, numbers):
    return str(keeper.pledge(numbers))


def told_sell(keeper, numbers):
    keeper.sell(numbers)
    return "ok"


def told_undo(keeper, numbers):
    keeper.undo()
    return "ok"


def asked_gifts(keeper, numbers):
    return rows_text(keeper.gifts_of(numbers[0]), ":", "none")


def asked_owed(keeper, numbers):
    return rows_text(keeper.owed_now(), ":", "none")


def asked_lack(keeper, numbers):
    return str(keeper.lack_now())


def asked_turned(keeper, numbers):
    year = keeper.turned()
    return "none" if year is None else str(year)


ANSWERS = {
    "shear": told_shear, "pledge": told_pledge, "sell": told_sell, "undo": told_undo,
    "gifts": asked_gifts, "owed": asked_owed, "lack": asked_lack, "turned": asked_turned,
}


def is_line(thing):
    if not isinstance(thing, str):
        return False
    # Blanks ahead, behind or side by side make empty words, which are neither a first word nor a number.
    word, *rest = thing.split(" ")
    return word in NUMBERS_BEHIND and len(rest) == NUMBERS_BEHIND[word] and all([is_number(each) for each in rest])


class Desk:
    """A keeper that is told and asked by lines."""

    def __init__(self):
        self.keeper = Keeper()

    def say(self, line):
        if not is_line(line):
            raise NoLine("this is no line that a desk knows")
        word, *rest = line.split(" ")
        answer = ANSWERS[word]
        return answer(self.keeper, tuple([int(each) for each in rest]))
