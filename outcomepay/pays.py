"""The least pay with which a worker does the wished work, or what bars every pay."""

from outcomepay.bounds import least_amounts, mix_shows, weights_show
from outcomepay.jobs import average_pay, check_job, check_work, is_pay, wanted, work_chances, work_efforts
from outcomepay.ratios import ZERO, is_less, plus


class Enough:
    """A least pay that brings a work about, and weights that show that less is not enough."""

    def __init__(self, pay, weights):
        self.pay = pay
        self.weights = {other: weights[other] for other in weights}

    def __eq__(self, other):
        return isinstance(other, Enough) and self.pay == other.pay and self.weights == other.weights

    def shows(self, job, work, *, rising=False):
        """Whether the pay is a least one for the work, and the weights show it."""
        check_job(job)
        check_work(job, work)
        if not is_pay(job, self.pay) or (rising and not _is_rising(self.pay)):
            return False
        if work not in wanted(job, self.pay):
            return False
        cost = average_pay(job, work, self.pay)
        return weights_show(_views(job, rising), work_efforts(job), work, self.weights, cost)


class Barred:
    """A mix of other works that bars every pay for the wished one."""

    def __init__(self, mix):
        self.mix = {other: mix[other] for other in mix}

    def __iter__(self):
        return iter(self.mix.items())

    def __eq__(self, other):
        return isinstance(other, Barred) and self.mix == other.mix

    def shows(self, job, work, *, rising=False):
        """Whether the mix bars every pay for the work."""
        check_job(job)
        check_work(job, work)
        return mix_shows(_views(job, rising), work_efforts(job), work, self.mix)


def least_pay(job, work, *, rising=False):
    """An Enough with a least pay for the work, or a Barred if no pay brings it about."""
    check_job(job)
    check_work(job, work)
    amounts, proof = least_amounts(_views(job, rising), work_efforts(job), work)
    if amounts is None:
        return Barred(proof)
    return Enough(tuple(_sums(amounts) if rising else amounts), proof)


def pay_cost(job, work, *, rising=False):
    """The average of a least pay for the work, None if no pay brings it about."""
    found = least_pay(job, work, rising=rising)
    if isinstance(found, Barred):
        return None
    return average_pay(job, work, found.pay)


def _views(job, rising):
    """The chances of all cases that a pay, or the steps of a rising one, hang on, for each work."""
    found = [work_chances(job, work) for work in range(len(job))]
    # A rising pay is a sum of steps; each is paid for its outcome and all later ones.
    return [_sums(row[::-1])[::-1] for row in found] if rising else found


def _sums(amounts):
    """For each amount, the sum of all up to it."""
    found = []
    reached = ZERO
    for amount in amounts:
        reached = plus(reached, amount)
        found.append(reached)
    return found


def _is_rising(pay):
    """Whether no outcome has less than the one before it."""
    return not any([is_less(later, earlier) for earlier, later in zip(pay, pay[1:])])
