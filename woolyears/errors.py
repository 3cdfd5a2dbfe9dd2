"""The refusals of the program, one class each."""


class WoolError(ValueError):
    """Any refusal."""


class NoClips(WoolError):
    """What was handed in is no clips."""


class NoPromises(WoolError):
    """What was handed in is no promises."""


class NoSales(WoolError):
    """What was handed in is no sales."""


class NoBook(WoolError):
    """What was handed in is no book."""


class NoNumber(WoolError):
    """What was handed in is no number such as is wanted there."""


class NoYear(WoolError):
    """What was handed in is no year such as is wanted there."""


class NoWeights(WoolError):
    """What was handed in is no weights."""


class NoPaper(WoolError):
    """What was handed in is no paper."""


class NoGrowth(WoolError):
    """What was handed in is no growth."""


class NoPromise(WoolError):
    """What was handed in is no promise."""


class NoSort(WoolError):
    """What was handed in is no sort."""


class NoClip(WoolError):
    """What was handed in is no clip of a year."""


class NoSale(WoolError):
    """What was handed in is no sale, or one that doesn't hold."""


class NoDeed(WoolError):
    """There is no deed that could be undone."""


class NoText(WoolError):
    """What was handed in is no text that can be read."""


class NoLine(WoolError):
    """What was handed in is no line that a desk knows."""


class TooMany(WoolError):
    """There would be so many where there may be fewer at most."""

    def __init__(self, many, most):
        WoolError.__init__(self, f"{many} where {most} is the most")
        self.many = many
        self.most = most
