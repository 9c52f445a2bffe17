"""Arguments that are not as they must be."""

from outcomepay.jobs import Job


class Thing:
    """An object of no special kind."""


def anything():
    """Things of all kinds, new ones each time; no integer from 0 to 3 is among them."""
    return [
        None, True, False, -1, 7, 10 ** 50, -10 ** 50, "", "0", "WORTHS", b"", b"\x00", (), (0,), (0, 1), (1, 2, 3),
        ((0, 1), (1, 1)), [], [0, 1], [(0, 1), (1, 1)], {}, {0: 1}, set(), {0, 1}, frozenset((0, 1)), range(2),
        Thing(), Thing, Job, len, ValueError("x"), iter([0, 1]), (None, None), ("a", "b"), ((), ()), [[]], 2j,
    ]


WRONG_NUMBERS = (None, True, False, "1", b"1", (1,), [1], {}, 1j)
