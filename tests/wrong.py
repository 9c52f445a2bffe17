"""Arguments that are not as they must be."""

from outcomepay.jobs import Job


class Thing:
    """An object of no special kind."""


def anything():
    """Things of all kinds, new ones each time; no integer from 0 to 3 is among them."""
    return [
        None, True, False, -1, 7, 10 ** 50, -10 ** 50, "", "0", "WORTHS", b"", b"\x00", (), (0,), (0, 1), (1, 2, 3),
        ((0, 1), (1, 1)), [], [0, 1], [(0, 1), (1, 1)], {}, {0: 1}, set(), {0, 1}, frozenset((0, 1)), range(2),
        Thing(), Thing, Job, len, ValueError("x"), iter([0, 1]), (None, None), ("a", "b"), ((), ()), [[]], 2j,
    ]


WRONG_NUMBERS = (None, True, False, "1", b"1", (1,), [1], {}, 1j)


def wrong_groups(many):
    """Groups that are none, for a job with so many outcomes, two to four."""
    outcomes = tuple(range(many))
    singles = tuple((outcome,) for outcome in outcomes)
    found = anything()
    found += [
        list(singles), [list(group) for group in singles], tuple([outcome] for outcome in outcomes), [outcomes],
        ([0],) + singles[1:], outcomes, (outcomes[0],) + singles[1:], dict.fromkeys(singles), iter(singles),
        singles[1:], singles[:-1], singles[:1] + singles, singles + singles[-1:], singles + ((many,),),
        singles[::-1], singles[1:2] + singles[:1] + singles[2:], (outcomes, outcomes), (outcomes, (0,)),
        ((0,), outcomes), (outcomes[:1] + outcomes,), (outcomes + (many,),), (outcomes + outcomes[-1:],),
        (outcomes[:-1],), (outcomes[1:],),
        (outcomes[::-1],), ((1, 0) + outcomes[2:],), (outcomes, ()), ((), outcomes), singles + ((),), ((),) + singles,
        ((-1,),) + singles, ((-1,) + outcomes,), (outcomes[:-1] + (-1,),), (outcomes[:-1] + (many,),),
        (outcomes[:-1] + (10 ** 40,),), ((False,),) + singles[1:], singles[:1] + ((True,),) + singles[2:],
        ((False,) + outcomes[1:],), ((0, True) + outcomes[2:],), (("0",),) + singles[1:], ((None,),) + singles[1:],
        ("01"[:many],), (outcomes[:-1] + (str(many - 1),),), (outcomes[:-1] + (None,),), (singles,), (outcomes, None),
        tuple(singles[:-1]) + (None,), tuple(singles[:-1]) + (many - 1,), tuple(map(frozenset, singles)),
    ]
    if many > 2:
        found += [((0, 2), (1, 2)), ((1,), (0, 2)), ((0, 2, 1),), ((1, 2), (0,)), ((2,), (0, 1)), ((0, 1), (1, 2))]
    if many > 3:
        found += [((0, 1, 2, 3), (1, 2)), ((2, 3), (0, 1)), ((0, 3), (2, 1)), ((1, 3), (0, 2)), ((0, 2), (3, 1))]
    return found
