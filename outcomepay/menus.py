"""Menus of two pays for two kinds of workers, whom the payer cannot tell apart."""

from outcomepay.bounds import are_within
from outcomepay.errors import BadKinds, BadWish
from outcomepay.jobs import MOST_EFFORT, average_pay, average_worth, check_job, is_pay, work_chances
from outcomepay.ratios import ZERO, is_amount, is_integer_within, is_less, minus, ratio, times, weighted
from outcomepay.simplex import cheapest

KINDS = (0, 1)
MOST_NUMBER = 6


class Menu:
    """A least menu that brings a wish about, and weights that show that less is not enough."""

    def __init__(self, pays, weights):
        self.pays = pays
        self.weights = {choice: weights[choice] for choice in weights}

    def __iter__(self):
        return iter(self.pays)

    def __eq__(self, other):
        return isinstance(other, Menu) and self.pays == other.pays and self.weights == other.weights

    def shows(self, job, kinds, wish):
        """Whether the pays are a least menu for the wish, and the weights show it."""
        _check(job, kinds, wish)
        if not _are_pays(job, self.pays) or not _brings_about(job, kinds, wish, self.pays):
            return False
        if not _are_weights(job, wish, self.weights):
            return False
        if not _are_bounded(job, wish, self.weights, _limits(job, kinds, wish)):
            return False
        return _reached(kinds, wish, self.weights) == _average(job, kinds, wish, self.pays)


class NoMenu:
    """Weights that show that no menu brings a wish about."""

    def __init__(self, weights):
        self.weights = {choice: weights[choice] for choice in weights}

    def __iter__(self):
        return iter(self.weights.items())

    def __eq__(self, other):
        return isinstance(other, NoMenu) and self.weights == other.weights

    def shows(self, job, kinds, wish):
        """Whether the weights show that no menu brings the wish about."""
        _check(job, kinds, wish)
        if not _are_weights(job, wish, self.weights):
            return False
        if not _are_bounded(job, wish, self.weights, [ZERO] * len(_limits(job, kinds, wish))):
            return False
        return is_less(ZERO, _reached(kinds, wish, self.weights))


def menu(job, kinds, wish):
    """A Menu with least pays for the wish, or a NoMenu if no menu brings it about."""
    _check(job, kinds, wish)
    choices = _other_choices(job, wish)
    rows = [_demands(job, wish, choice) for choice in choices]
    needs = [_effort_difference(kinds, wish, choice) for choice in choices]
    amounts, weights = cheapest(_limits(job, kinds, wish), rows, needs)
    proof = {choice: weight for choice, weight in zip(choices, weights) if weight != ZERO}
    if amounts is None:
        return NoMenu(proof)
    many = len(job.worths)
    return Menu((tuple(amounts[:many]), tuple(amounts[many:])), proof)


def menu_cost(job, kinds, wish):
    """The average pay of a least menu for the wish, None if no menu brings it about."""
    found = menu(job, kinds, wish)
    return None if isinstance(found, NoMenu) else _average(job, kinds, wish, found.pays)


def best_wish(job, kinds):
    """The first wish with the greatest profit of the payer, and this profit."""
    check_job(job)
    _check_kinds(job, kinds)
    best = None
    most = None
    for wish in [(first, second) for first in range(len(job)) for second in range(len(job))]:
        cost = menu_cost(job, kinds, wish)
        if cost is None:
            continue
        kept = minus(_worth(job, kinds, wish), cost)
        if best is None or is_less(most, kept):
            best = wish
            most = kept
    return (best, most)


def _check(job, kinds, wish):
    """Raise the error of the first of these that is not as it must be."""
    check_job(job)
    _check_kinds(job, kinds)
    if not _is_wish(job, wish):
        raise BadWish("a wish is a pair of a work for each kind")


def _check_kinds(job, kinds):
    """Raise BadKinds if these are not two kinds of workers for the job."""
    if not isinstance(kinds, tuple) or len(kinds) != len(KINDS) or not all([_is_kind(job, kind) for kind in kinds]):
        raise BadKinds("kinds are a pair of pairs of a number from 1 to 6 and an effort for each work")


def _is_kind(job, kind):
    """Whether this is a pair of a number of workers and an effort for each work."""
    if not isinstance(kind, tuple) or len(kind) != 2:
        return False
    number, efforts = kind
    if not is_integer_within(number, 1, MOST_NUMBER) or not isinstance(efforts, tuple) or len(efforts) != len(job):
        return False
    return all([is_integer_within(effort, 0, MOST_EFFORT) for effort in efforts])


def _is_wish(job, wish):
    """Whether this is a pair of a work for each kind."""
    if not isinstance(wish, tuple) or len(wish) != len(KINDS):
        return False
    return all([is_integer_within(work, 0, len(job) - 1) for work in wish])


def _are_pays(job, pays):
    """Whether this is a pair of pays."""
    return isinstance(pays, tuple) and len(pays) == len(KINDS) and all([is_pay(job, pay) for pay in pays])


def _are_weights(job, wish, weights):
    """Whether this is a dict from some other choices to fractions of at least 0."""
    if not all([_is_other_choice(job, wish, choice) for choice in weights]):
        return False
    return all([is_amount(weight) for weight in weights.values()])


def _is_other_choice(job, wish, choice):
    """Whether a worker can choose this instead of what is wished from its kind."""
    if not isinstance(choice, tuple) or len(choice) != 3 or not is_integer_within(choice[0], 0, 1):
        return False
    kind, pay, work = choice
    if pay is None and work is None:
        return True
    if not is_integer_within(pay, 0, 1) or not is_integer_within(work, 0, len(job) - 1):
        return False
    return (pay, work) != (kind, wish[kind])


def _other_choices(job, wish):
    """All that workers can choose instead of what is wished from their kinds."""
    found = [(kind, None, None) for kind in KINDS]
    choices = [(kind, pay, work) for kind in KINDS for pay in KINDS for work in range(len(job))]
    return found + [choice for choice in choices if choice[1:] != (choice[0], wish[choice[0]])]


def _demands(job, wish, choice):
    """What a choice demands of both pays, for all outcomes of the one and then of the other."""
    kind, pay, work = choice
    rows = [[ZERO] * len(job.worths) for _ in KINDS]
    rows[kind] = work_chances(job, wish[kind])
    if pay is not None:
        rows[pay] = [minus(mine, its) for mine, its in zip(rows[pay], work_chances(job, work))]
    return rows[0] + rows[1]


def _effort_difference(kinds, wish, choice):
    """The effort of a kind with its wished work, less that with a choice."""
    kind, _, work = choice
    efforts = kinds[kind][1]
    return (efforts[wish[kind]] - (0 if work is None else efforts[work]), 1)


def _limits(job, kinds, wish):
    """The chances of both kinds, multiplied by those of all outcomes with their wished works."""
    found = []
    for share, work in zip(_kind_chances(kinds), wish):
        found.extend([times(share, chance) for chance in work_chances(job, work)])
    return found


def _kind_chances(kinds):
    """The chances that a worker is of the one and of the other kind."""
    numbers = [number for number, efforts in kinds]
    return [ratio(number, sum(numbers)) for number in numbers]


def _brings_about(job, kinds, wish, pays):
    """Whether no other choice gains more than what is wished."""
    amounts = list(pays[0] + pays[1])
    for choice in _other_choices(job, wish):
        if is_less(weighted(_demands(job, wish, choice), amounts), _effort_difference(kinds, wish, choice)):
            return False
    return True


def _are_bounded(job, wish, weights, limits):
    """Whether what the choices demand, multiplied by their weights, is together at most the limits."""
    return are_within(list(weights.values()), [_demands(job, wish, choice) for choice in weights], limits)


def _reached(kinds, wish, weights):
    """The sum of the effort differences, multiplied by the weights."""
    return weighted(list(weights.values()), [_effort_difference(kinds, wish, choice) for choice in weights])


def _average(job, kinds, wish, pays):
    """The average pay of a menu."""
    averages = [average_pay(job, work, pay) for work, pay in zip(wish, pays)]
    return weighted(_kind_chances(kinds), averages)


def _worth(job, kinds, wish):
    """The average worth of the wished works."""
    return weighted(_kind_chances(kinds), [average_worth(job, work) for work in wish])
