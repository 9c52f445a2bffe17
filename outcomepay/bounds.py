"""The least that brings a work about, and what shows that less is not enough.

Here amounts hang on cases: outcomes, or whatever else a pay can hang on. `views` has for each work
a list of the chances of all cases, `efforts` its effort; other choices than a work are the other
works, and None for no work.
"""

from outcomepay.ratios import ONE, ZERO, is_amount, is_integer_within, is_less, minus, over, total, weighted
from outcomepay.simplex import cheapest


def least_amounts(views, efforts, work):
    """The amounts that bring the work about with the least average, and a dict of weights for them.

    If none bring it about, None and a dict that is a mix of other works.
    """
    others = [None] + [other for other in range(len(views)) if other != work]
    rows = [_differences(views, work, other) for other in others]
    needs = [_effort_difference(efforts, work, other) for other in others]
    amounts, weights = cheapest(views[work], rows, needs)
    proof = {other: weight for other, weight in zip(others, weights) if weight != ZERO}
    if amounts is not None:
        return amounts, proof
    # None has no weight here: the differences of works cancel out, the chances for None do not.
    whole = total(list(proof.values()))
    return None, {other: over(weight, whole) for other, weight in proof.items()}


def weights_show(views, efforts, work, weights, cost):
    """Whether the weights show that the work needs at least this cost."""
    others = list(weights)
    if not all([other is None or _is_other(views, work, other) for other in others]):
        return False
    factors = [weights[other] for other in others]
    if not all([is_amount(factor) for factor in factors]):
        return False
    if not are_within(factors, [_differences(views, work, other) for other in others], views[work]):
        return False
    needs = [_effort_difference(efforts, work, other) for other in others]
    return weighted(factors, needs) == cost


def are_within(factors, rows, limits):
    """Whether the rows, each multiplied by its factor, are together at most the limits."""
    sums = [weighted(factors, [row[at] for row in rows]) for at in range(len(limits))]
    return not any([is_less(limit, reached) for limit, reached in zip(limits, sums)])


def mix_shows(views, efforts, work, mix):
    """Whether the mix of other works shows that nothing brings the work about."""
    others = list(mix)
    if not all([_is_other(views, work, other) for other in others]):
        return False
    factors = [mix[other] for other in others]
    if not all([is_amount(factor) for factor in factors]) or total(factors) != ONE:
        return False
    for case, chance in enumerate(views[work]):
        if is_less(weighted(factors, [views[other][case] for other in others]), chance):
            return False
    return is_less(weighted(factors, [efforts[other] for other in others]), efforts[work])


def _is_other(views, work, other):
    """Whether this is another work than the wished one."""
    return is_integer_within(other, 0, len(views) - 1) and other != work


def _differences(views, work, other):
    """The chances of all cases with the work, less those with the other choice."""
    if other is None:
        return list(views[work])
    return [minus(mine, its) for mine, its in zip(views[work], views[other])]


def _effort_difference(efforts, work, other):
    """The effort of the work, less that of the other choice."""
    return efforts[work] if other is None else minus(efforts[work], efforts[other])
