"""Jobs: what each outcome is worth, and what each work costs and brings; and pays for them."""

from outcomepay.errors import BadJob, BadPay, BadWork
from outcomepay.ratios import ZERO, is_amount, is_integer_within, is_less, minus, ratio, weighted

FEWEST = 2
MOST = 4
MOST_WORTH = 20
MOST_EFFORT = 9
MOST_PART = 6


class Job:
    """A job with worths for its outcomes and with works; it never changes."""

    def __init__(self, worths, works):
        if not are_worths(worths):
            raise BadJob("WORTHS")
        if not _are_works(works, len(worths)):
            raise BadJob("WORKS")
        self._worths = tuple(worths)
        self._works = tuple([(effort, tuple(parts)) for effort, parts in works])

    @property
    def worths(self):
        """What each outcome is worth to the payer."""
        return self._worths

    @property
    def works(self):
        """The pairs of the effort and the parts of each work."""
        return self._works

    def __len__(self):
        return len(self._works)

    def __eq__(self, other):
        return isinstance(other, Job) and self._worths == other._worths and self._works == other._works


def are_worths(worths):
    """Whether these are worths for two to four outcomes."""
    if not isinstance(worths, tuple) or not FEWEST <= len(worths) <= MOST:
        return False
    return all([is_integer_within(worth, 0, MOST_WORTH) for worth in worths])


def _are_works(works, outcomes):
    """Whether these are two to four works for so many outcomes."""
    if not isinstance(works, tuple) or not FEWEST <= len(works) <= MOST:
        return False
    return all([is_work(work, outcomes) for work in works])


def is_work(work, outcomes):
    """Whether this is a pair of an effort and parts for so many outcomes."""
    if not isinstance(work, tuple) or len(work) != 2:
        return False
    effort, parts = work
    return is_integer_within(effort, 0, MOST_EFFORT) and _are_parts(parts, outcomes)


def _are_parts(parts, outcomes):
    """Whether these are parts for so many outcomes, not all of them 0."""
    if not isinstance(parts, tuple) or len(parts) != outcomes:
        return False
    return all([is_integer_within(part, 0, MOST_PART) for part in parts]) and sum(parts) > 0


def check_job(job):
    """Raise BadJob if this is not a job."""
    if not isinstance(job, Job):
        raise BadJob(None)


def check_work(job, work):
    """Raise BadWork if this is not a work of the job."""
    if not is_integer_within(work, 0, len(job) - 1):
        raise BadWork("a work is an integer from 0 to less than the number of works")


def is_pay(job, pay):
    """Whether this is a tuple with a fraction of at least 0 for each outcome of the job."""
    if not isinstance(pay, tuple) or len(pay) != len(job.worths):
        return False
    return all([is_amount(amount) for amount in pay])


def check_pay(job, pay):
    """Raise BadPay if this is not a pay for the job."""
    if not is_pay(job, pay):
        raise BadPay("a pay is a tuple with a fraction of at least 0 for each outcome")


def work_efforts(job):
    """The efforts of all works, as fractions."""
    return [(effort, 1) for effort, parts in job.works]


def work_chances(job, work):
    """The chance of each outcome with a work."""
    parts = job.works[work][1]
    return [ratio(part, sum(parts)) for part in parts]


def average_pay(job, work, pay):
    """The average of a pay with a work."""
    return weighted(work_chances(job, work), pay)


def average_worth(job, work):
    """The average worth with a work."""
    return weighted(work_chances(job, work), [(worth, 1) for worth in job.worths])


def gain(job, work, pay):
    """The gain of the worker with a work: its average pay less the effort."""
    check_job(job)
    check_work(job, work)
    check_pay(job, pay)
    return minus(average_pay(job, work, pay), work_efforts(job)[work])


def profit(job, work, pay):
    """The profit of the payer with a work: its average worth less the average pay."""
    check_job(job)
    check_work(job, work)
    check_pay(job, pay)
    return minus(average_worth(job, work), average_pay(job, work, pay))


def wanted(job, pay):
    """The works with the greatest gain, None for no work first, then ascending."""
    check_job(job)
    check_pay(job, pay)
    best = ZERO
    found = [None]
    for work in range(len(job)):
        gained = gain(job, work, pay)
        if is_less(best, gained):
            best = gained
            found = [work]
        elif gained == best:
            found.append(work)
    return found
