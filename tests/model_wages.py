"""Wages computed in another way: with Fraction, by the values of all works at all wages that may matter."""

from fractions import Fraction
from itertools import combinations

from outcomepay.wages import NoWage
from tests.model import chances, exact, is_other


def drain(job, work, patience, fired):
    row = chances(job, work)
    return 1 - exact(patience) * sum(chance for outcome, chance in enumerate(row) if outcome not in fired)


def value(job, work, patience, fired, wage):
    return 0 if work is None else (wage - job.works[work][0]) / drain(job, work, patience, fired)


def brings_about(job, work, patience, fired, wage):
    mine = value(job, work, patience, fired, wage)
    return mine >= max([0] + [value(job, other, patience, fired, wage) for other in range(len(job))])


def even(job, one, other, patience, fired):
    """The wage at which two works have the same value, None if there is not exactly one."""
    a, b = (drain(job, work, patience, fired) for work in (one, other))
    return None if a == b else (job.works[one][0] * b - job.works[other][0] * a) / (b - a)


def least(job, work, patience, fired):
    """The least wage that brings the work about, None if there is none."""
    wages = {Fraction(effort) for effort, parts in job.works}
    wages |= {even(job, one, other, patience, fired) for one, other in combinations(range(len(job)), 2)}
    return min((each for each in wages - {None} if brings_about(job, work, patience, fired, each)), default=None)


def is_wage(job, work, patience, fired, wage, why):
    """Whether a wage and why it is the least are as in [10]."""
    wage = exact(wage)
    if not brings_about(job, work, patience, fired, wage):
        return False
    mine = value(job, work, patience, fired, wage)
    if why is None:
        return mine == 0
    if not is_other(job, work, why) or drain(job, why, patience, fired) <= drain(job, work, patience, fired):
        return False
    return value(job, why, patience, fired, wage) == mine


def is_no_wage(job, work, patience, fired, one, other):
    """Whether both works are as in [10] where no wage brings the work about."""
    if other is None or not is_other(job, work, other):
        return False
    mine, its = (drain(job, each, patience, fired) for each in (work, other))
    if one is None and mine == its and job.works[other][0] < job.works[work][0]:
        return True
    if its >= mine:
        return False
    if one is None:
        return job.works[work][0] > even(job, work, other, patience, fired)
    if not is_other(job, work, one) or drain(job, one, patience, fired) <= mine:
        return False
    return even(job, work, one, patience, fired) > even(job, work, other, patience, fired)


def is_answer(job, work, patience, fired, answer):
    if isinstance(answer, NoWage):
        return is_no_wage(job, work, patience, fired, answer.one, answer.other)
    return is_wage(job, work, patience, fired, answer.wage, answer.why)


def all_fired(job):
    """All ascending tuples of outcomes, by their lengths, then as tuples."""
    many = len(job.worths)
    return [fired for length in range(many + 1) for fired in combinations(range(many), length)]


def is_rule(job, work, patience, fired, rows):
    """Whether fired outcomes and rows are as in [11], except that the tuple need not be the first one."""
    if any(isinstance(outcome, bool) for key in rows for outcome in key) or sorted(rows) != sorted(all_fired(job)):
        return False
    if not all(is_answer(job, work, patience, key, answer) for key, answer in rows.items()):
        return False
    wages = {key: exact(answer.wage) for key, answer in rows.items() if not isinstance(answer, NoWage)}
    if fired is None:
        return not wages
    return fired in wages and wages[fired] == min(wages.values())


def some_patience(luck):
    bottom = luck.choice((1, 2, 3, 10, 100, luck.randint(1, 100)))
    found = Fraction(luck.randint(0, bottom - 1), bottom)
    return (found.numerator, found.denominator)
