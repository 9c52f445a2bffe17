"""The least pay for a work if only groups of outcomes are seen, and which groups are worth their price."""

from outcomepay.bounds import least_amounts, mix_shows, weights_show
from outcomepay.errors import BadOffers
from outcomepay.groups import are_groups, check_groups, group_views, hangs_on, spread
from outcomepay.jobs import average_pay, check_job, check_work, is_pay, wanted, work_efforts
from outcomepay.ratios import is_integer_within, is_less, plus

MOST_OFFERS = 4
MOST_PRICE = 9


class Seen:
    """A least pay by groups that brings a work about, and weights that show that less is not enough."""

    def __init__(self, pay, weights):
        self.pay = pay
        self.weights = {other: weights[other] for other in weights}

    def __eq__(self, other):
        return isinstance(other, Seen) and self.pay == other.pay and self.weights == other.weights

    def shows(self, job, work, groups):
        """Whether the pay is a least one by groups for the work, and the weights show it."""
        check_job(job)
        check_work(job, work)
        check_groups(job, groups)
        if not is_pay(job, self.pay) or not hangs_on(self.pay, groups):
            return False
        if work not in wanted(job, self.pay):
            return False
        cost = average_pay(job, work, self.pay)
        return weights_show(group_views(job, groups), work_efforts(job), work, self.weights, cost)


class Unseen:
    """A mix of other works that bars every pay by groups for the wished one."""

    def __init__(self, mix):
        self.mix = {other: mix[other] for other in mix}

    def __iter__(self):
        return iter(self.mix.items())

    def __eq__(self, other):
        return isinstance(other, Unseen) and self.mix == other.mix

    def shows(self, job, work, groups):
        """Whether the mix bars every pay by groups for the work."""
        check_job(job)
        check_work(job, work)
        check_groups(job, groups)
        return mix_shows(group_views(job, groups), work_efforts(job), work, self.mix)


class Offer:
    """The groups that are best to see for a work, None for none, and an answer for all offered ones."""

    def __init__(self, groups, rows):
        self.groups = groups
        self.rows = {key: rows[key] for key in rows}

    def __iter__(self):
        return iter(self.rows.items())

    def __eq__(self, other):
        return isinstance(other, Offer) and self.groups == other.groups and self.rows == other.rows

    def shows(self, job, work, offers):
        """Whether the rows are right for all offers, and the groups are best ones with them."""
        check_job(job)
        check_work(job, work)
        _check_offers(job, offers)
        if not _are_rows(job, work, offers, self.rows):
            return False
        if self.groups is not None and not are_groups(job, self.groups):
            return False
        return self.groups in _best_groups(_costs(job, work, offers, self.rows))


def see(job, work, groups):
    """A Seen with a least pay by groups for the work, or an Unseen if no such pay brings it about."""
    check_job(job)
    check_work(job, work)
    check_groups(job, groups)
    amounts, proof = least_amounts(group_views(job, groups), work_efforts(job), work)
    return Unseen(proof) if amounts is None else Seen(spread(amounts, groups), proof)


def seen_cost(job, work, groups):
    """The average of a least pay by groups for the work, None if no such pay brings it about."""
    found = see(job, work, groups)
    return None if isinstance(found, Unseen) else average_pay(job, work, found.pay)


def offer(job, work, offers):
    """The Offer for the work: the first groups with the least price and pay, and answers for all."""
    check_job(job)
    check_work(job, work)
    _check_offers(job, offers)
    rows = {groups: see(job, work, groups) for groups in sorted(offers)}
    return Offer(_best_groups(_costs(job, work, offers, rows))[0], rows)


def offer_cost(job, work, offers):
    """The price and the average pay together of the best groups to see, None if there are none."""
    found = offer(job, work, offers)
    return None if found.groups is None else _costs(job, work, offers, found.rows)[found.groups]


def _check_offers(job, offers):
    """Raise BadOffers if this is not a dict from one to four groups to prices."""
    if not _are_offers(job, offers):
        raise BadOffers("offers are a dict from one to four groups to prices from 0 to 9")


def _are_offers(job, offers):
    """Whether this is a dict from one to four groups to prices."""
    if not isinstance(offers, dict) or not 1 <= len(offers) <= MOST_OFFERS:
        return False
    if not all([are_groups(job, groups) for groups in offers]):
        return False
    return all([is_integer_within(price, 0, MOST_PRICE) for price in offers.values()])


def _are_rows(job, work, offers, rows):
    """Whether these are answers for all offered groups, each of them once."""
    if len(rows) != len(offers) or not all([are_groups(job, groups) and groups in offers for groups in rows]):
        return False
    return all([row.shows(job, work, groups) for groups, row in rows.items()])


def _costs(job, work, offers, rows):
    """The price and the average pay together, for all groups with a Seen."""
    seen = {groups: row for groups, row in rows.items() if isinstance(row, Seen)}
    return {groups: plus((offers[groups], 1), average_pay(job, work, seen[groups].pay)) for groups in seen}


def _best_groups(costs):
    """The groups that cost the least, in the order of the costs; None alone if there are none."""
    found = [groups for groups in costs if not any([is_less(cost, costs[groups]) for cost in costs.values()])]
    return found if found else [None]
