"""The work that is best for the payer."""

from outcomepay.jobs import check_job, profit
from outcomepay.pays import Barred, least_pay
from outcomepay.ratios import ZERO, is_integer, is_integer_within, is_less


class Best:
    """The work that is best for the payer, None for no work, and what each work needs."""

    def __init__(self, work, needs):
        self.work = work
        self.needs = {key: needs[key] for key in needs}

    def __iter__(self):
        return iter(self.needs.items())

    def __eq__(self, other):
        return isinstance(other, Best) and self.work == other.work and self.needs == other.needs

    def shows(self, job, *, rising=False):
        """Whether the needs are right for all works, and the work is a best one with them."""
        check_job(job)
        if not _are_needs(job, rising, self.needs):
            return False
        if self.work is not None and not is_integer(self.work):
            return False
        return self.work in _best_works(job, self.needs)


def choose(job, *, rising=False):
    """The Best for the job: the first work with the greatest profit, and what each work needs."""
    check_job(job)
    needs = {work: least_pay(job, work, rising=rising) for work in range(len(job))}
    return Best(_best_works(job, needs)[0], needs)


def best_profit(job, *, rising=False):
    """The profit of the payer with the work that is best for it, 0 for no work."""
    found = choose(job, rising=rising)
    if found.work is None:
        return ZERO
    return profit(job, found.work, found.needs[found.work].pay)


def _are_needs(job, rising, needs):
    """Whether these are what all works need, each of them once."""
    if len(needs) != len(job) or not all([is_integer_within(work, 0, len(job) - 1) for work in needs]):
        return False
    return all([need.shows(job, work, rising=rising) for work, need in needs.items()])


def _best_works(job, needs):
    """The works with the greatest profit, in the order of the needs; None alone if none has at least 0."""
    profits = {work: profit(job, work, need.pay) for work, need in needs.items() if not isinstance(need, Barred)}
    good = [work for work in profits if not is_less(profits[work], ZERO)]
    found = [work for work in good if not any([is_less(profits[work], profits[other]) for other in good])]
    return found if found else [None]
