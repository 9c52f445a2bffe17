"""The same wage in each round, and the outcomes after which the worker is dismissed."""

from outcomepay.errors import BadFired, BadPatience
from outcomepay.jobs import check_job, check_work, work_chances, work_efforts
from outcomepay.ratios import ONE, ZERO, is_amount, is_fraction, is_integer_within, is_less, minus, over, times, total

MOST_BOTTOM = 100


class Wage:
    """The least wage that brings a work about, and why less is not enough."""

    def __init__(self, wage, why):
        self.wage = wage
        self.why = why

    def __eq__(self, other):
        return isinstance(other, Wage) and self.wage == other.wage and self.why == other.why

    def shows(self, job, work, patience, fired):
        """Whether the wage is the least one for the work, and why."""
        _check(job, work, patience, fired)
        if not is_fraction(self.wage):
            return False
        drains = _drains(job, patience, fired)
        values = [over(minus(self.wage, effort), drain) for effort, drain in zip(work_efforts(job), drains)]
        if any([is_less(values[work], value) for value in [ZERO] + values]):
            return False
        if self.why is None:
            return values[work] == ZERO
        if not is_integer_within(self.why, 0, len(job) - 1):
            return False
        return is_less(drains[work], drains[self.why]) and values[self.why] == values[work]


class NoWage:
    """A work that is rather done for too great wages, and one, None for no work, for too small ones."""

    def __init__(self, one, other):
        self.one = one
        self.other = other

    def __eq__(self, other):
        return isinstance(other, NoWage) and self.one == other.one and self.other == other.other

    def shows(self, job, work, patience, fired):
        """Whether both show that no wage brings the work about."""
        _check(job, work, patience, fired)
        if not is_integer_within(self.other, 0, len(job) - 1):
            return False
        if self.one is not None and not is_integer_within(self.one, 0, len(job) - 1):
            return False
        efforts = work_efforts(job)
        drains = _drains(job, patience, fired)
        if drains[self.other] == drains[work]:
            return self.one is None and is_less(efforts[self.other], efforts[work])
        if self.one is not None and not is_less(drains[work], drains[self.one]):
            return False
        if not is_less(drains[self.other], drains[work]):
            return False
        return is_less(_even(efforts, drains, work, self.other), _even(efforts, drains, work, self.one))


class Rule:
    """The outcomes after which to dismiss, None if no wage is enough, and an answer for all such tuples."""

    def __init__(self, fired, rows):
        self.fired = fired
        self.rows = {key: rows[key] for key in rows}

    def __iter__(self):
        return iter(self.rows.items())

    def __eq__(self, other):
        return isinstance(other, Rule) and self.fired == other.fired and self.rows == other.rows

    def shows(self, job, work, patience):
        """Whether the rows are right for all tuples, and the fired outcomes are best ones with them."""
        _check_rounds(job, work, patience)
        if not _are_rows(job, work, patience, self.rows):
            return False
        if self.fired is not None and not _are_fired(job, self.fired):
            return False
        return self.fired in _best_fired(self.rows)


def wage(job, work, patience, fired):
    """A Wage with the least wage for the work, or a NoWage if no wage brings it about."""
    _check(job, work, patience, fired)
    efforts = work_efforts(job)
    drains = _drains(job, patience, fired)
    why = None
    for one in range(len(job)):
        if drains[one] == drains[work] and is_less(efforts[one], efforts[work]):
            return NoWage(None, one)
        if is_less(drains[work], drains[one]):
            if is_less(_even(efforts, drains, work, why), _even(efforts, drains, work, one)):
                why = one
    least = _even(efforts, drains, work, why)
    for other in range(len(job)):
        if is_less(drains[other], drains[work]) and is_less(_even(efforts, drains, work, other), least):
            return NoWage(why, other)
    return Wage(least, why)


def least_wage(job, work, patience, fired):
    """The least wage for the work, None if no wage brings it about."""
    found = wage(job, work, patience, fired)
    return None if isinstance(found, NoWage) else found.wage


def rule(job, work, patience):
    """The Rule for the work: the first outcomes with the least wage, and answers for all tuples."""
    _check_rounds(job, work, patience)
    rows = {fired: wage(job, work, patience, fired) for fired in _all_fired(job)}
    return Rule(_best_fired(rows)[0], rows)


def rule_wage(job, work, patience):
    """The least wage for the work, whatever is fired, None if no wage brings it about."""
    found = rule(job, work, patience)
    return None if found.fired is None else found.rows[found.fired].wage


def _check(job, work, patience, fired):
    """Raise the error of the first of these that is not as it must be."""
    _check_rounds(job, work, patience)
    if not _are_fired(job, fired):
        raise BadFired("fired outcomes are an ascending tuple of outcomes, perhaps empty")


def _check_rounds(job, work, patience):
    """Raise the error of the first of these that is not as it must be."""
    check_job(job)
    check_work(job, work)
    if not is_amount(patience) or not is_less(patience, ONE) or patience[1] > MOST_BOTTOM:
        raise BadPatience("a patience is a fraction from 0 to less than 1, its second integer at most 100")


def _are_fired(job, fired):
    """Whether this is an ascending tuple of outcomes of the job."""
    if not isinstance(fired, tuple):
        return False
    if not all([is_integer_within(outcome, 0, len(job.worths) - 1) for outcome in fired]):
        return False
    return all([earlier < later for earlier, later in zip(fired, fired[1:])])


def _all_fired(job):
    """All ascending tuples of outcomes, by their lengths, then as tuples."""
    found = [()]
    for outcome in range(len(job.worths)):
        found = found + [fired + (outcome,) for fired in found]
    return sorted(sorted(found), key=len)


def _drains(job, patience, fired):
    """For each work, 1 less the patience multiplied by the chance that the worker is not dismissed."""
    found = []
    for work in range(len(job)):
        chances = work_chances(job, work)
        stays = minus(ONE, total([chances[outcome] for outcome in fired]))
        found.append(minus(ONE, times(patience, stays)))
    return found


def _even(efforts, drains, work, other):
    """The wage at which the other work, with another drain, or None for no work, has the same value."""
    if other is None:
        return efforts[work]
    crossed = minus(times(efforts[work], drains[other]), times(efforts[other], drains[work]))
    return over(crossed, minus(drains[other], drains[work]))


def _are_rows(job, work, patience, rows):
    """Whether these are answers for all ascending tuples of outcomes, each of them once."""
    if len(rows) != len(_all_fired(job)) or not all([_are_fired(job, fired) for fired in rows]):
        return False
    return all([row.shows(job, work, patience, fired) for fired, row in rows.items()])


def _best_fired(rows):
    """The fired outcomes with the least wage, in the order of the rows; None alone if there are none."""
    wages = {fired: row.wage for fired, row in rows.items() if isinstance(row, Wage)}
    found = [fired for fired in wages if not any([is_less(least, wages[fired]) for least in wages.values()])]
    return found if found else [None]
