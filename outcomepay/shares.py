"""Shares of the worth as pay: which work is done with them, and the best one for the payer."""

from outcomepay.errors import BadShare
from outcomepay.jobs import average_worth, check_job, work_efforts
from outcomepay.ratios import ONE, ZERO, is_amount, is_less, minus, over, times


def turns(job):
    """The pairs of a share and the work that is done from it on, None for no work, ascending."""
    check_job(job)
    found = []
    share = ZERO
    while share is not None:
        work = done(job, share)
        found.append((share, work))
        share = _next_share(job, work)
    return found


def done(job, share):
    """The work that is done with a share of the worth, None for no work."""
    check_job(job)
    _check_share(share)
    best = None
    for work in range(len(job)):
        if _is_preferred(job, share, work, best):
            best = work
    return best


def best_share(job):
    """The least share with which the payer has the greatest profit, and this profit."""
    best = None
    most = None
    # From one turn to the next, the payer only loses as the share grows: the turns are enough.
    for share, work in turns(job):
        kept = times(minus(ONE, share), _worth(job, work))
        if best is None or is_less(most, kept):
            best = share
            most = kept
    return (best, most)


def _check_share(share):
    """Raise BadShare if this is not a fraction from 0 to 1."""
    if not is_amount(share) or is_less(ONE, share):
        raise BadShare("a share is a fraction from 0 to 1")


def _is_preferred(job, share, work, other):
    """Whether the worker rather does this work: it gains more, or as much and is worth more."""
    mine = _gain(job, share, work)
    its = _gain(job, share, other)
    if mine == its:
        return is_less(_worth(job, other), _worth(job, work))
    return is_less(its, mine)


def _next_share(job, work):
    """The least share up to 1 with which a work that is worth more gains as much, None if there is none.

    Only such a work can come next: what the worker gains grows with the share by the average worth.
    """
    best = None
    for other in range(len(job)):
        more = minus(_worth(job, other), _worth(job, work))
        if not is_less(ZERO, more):
            continue
        share = over(minus(_effort(job, other), _effort(job, work)), more)
        if not is_less(ONE, share) and (best is None or is_less(share, best)):
            best = share
    return best


def _gain(job, share, work):
    """What the worker gains with a share and a work, None for no work."""
    return minus(times(share, _worth(job, work)), _effort(job, work))


def _worth(job, work):
    """The average worth with a work, 0 with None."""
    return ZERO if work is None else average_worth(job, work)


def _effort(job, work):
    """The effort of a work, 0 for None."""
    return ZERO if work is None else work_efforts(job)[work]
