"""The errors of the package."""


class PayError(ValueError):
    """The base of all errors of the package."""


class BadJob(PayError):
    """Not a job; `part` is "WORTHS" or "WORKS" if one was to be made, otherwise None."""

    def __init__(self, part=None):
        super().__init__(f"not as a job needs it: {part}")
        self.part = part


class BadWork(PayError):
    """Not a work of the job."""


class BadPay(PayError):
    """Not a pay for the job."""


class BadShare(PayError):
    """Not a fraction from 0 to 1."""


class BadGroups(PayError):
    """Not groups of the outcomes of the job."""


class BadOffers(PayError):
    """Not a dict from one to four groups to prices."""


class BadKinds(PayError):
    """Not two kinds of workers for the job."""


class BadWish(PayError):
    """Not a pair of works of the job."""


class BadPatience(PayError):
    """Not a fraction from 0 to less than 1 with a second integer up to 100."""


class BadFired(PayError):
    """Not an ascending tuple of outcomes of the job."""


class BadDraw(PayError):
    """Not a draw for the work."""


class NothingDone(PayError):
    """There is no work to take back."""


class BadSteps(PayError):
    """Not steps; `index` is that of the first wrong one, None if the whole is wrong."""

    def __init__(self, index=None):
        super().__init__(f"not as steps need it: {index}")
        self.index = index


class BadText(PayError):
    """Not a text that can be read; `row` is the index of the first wrong line."""

    def __init__(self, row=0):
        super().__init__(f"cannot be read from this line on: {row}")
        self.row = row
