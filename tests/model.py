"""The promises computed in another way: with Fraction, by looking at all corners.

`how` tells which pays are looked at: False for all, True for rising ones, groups for pays by them.
"""

from fractions import Fraction
from itertools import combinations
from random import Random

from outcomepay.jobs import Job
from outcomepay.pays import Barred, Enough
from outcomepay.seen import Unseen


def exact(pair):
    return Fraction(pair[0], pair[1])


def pair(number):
    number = Fraction(number)
    return (number.numerator, number.denominator)


def chances(job, work):
    parts = job.works[work][1]
    return [Fraction(part, sum(parts)) for part in parts]


def average(job, work, pay):
    return sum(chance * exact(amount) for chance, amount in zip(chances(job, work), pay))


def gain(job, work, pay):
    return average(job, work, pay) - job.works[work][0]


def cases(job, work, how):
    """The chances that stand in the conditions on weights and mixes."""
    row = chances(job, work)
    if how is True:
        return [sum(row[k:]) for k in range(len(row))]
    return [sum(row[k] for k in group) for group in how] if how else row


def solved(rows):
    """The solution of as many equations as unknowns, None if there is not exactly one."""
    rows = [list(row) for row in rows]
    many = len(rows)
    for column in range(many):
        at = next((k for k in range(column, many) if rows[k][column] != 0), None)
        if at is None:
            return None
        rows[column], rows[at] = rows[at], rows[column]
        pivot = rows[column][column]
        rows[column] = [entry / pivot for entry in rows[column]]
        for k in range(many):
            if k != column and rows[k][column] != 0:
                factor = rows[k][column]
                rows[k] = [entry - factor * part for entry, part in zip(rows[k], rows[column])]
    return [row[-1] for row in rows]


def pay_rows(job, work, how):
    """Rows (a, .., b): a pay x is as wanted and brings the work about if a * x + .. >= b for all of them."""
    many = len(job.worths)
    mine = chances(job, work)
    effort = job.works[work][0]
    rows = [[Fraction(int(k == j)) for j in range(many)] + [Fraction(0)] for k in range(many)]
    rows.append(mine + [Fraction(effort)])
    for other in range(len(job)):
        if other != work:
            its = chances(job, other)
            rows.append([a - b for a, b in zip(mine, its)] + [Fraction(effort - job.works[other][0])])
    if how is True:
        for k in range(1, many):
            rows.append([Fraction(int(j == k) - int(j == k - 1)) for j in range(many)] + [Fraction(0)])
    return rows


def least_average(job, work, how):
    """The least average of a pay as wanted that brings the work about, None if there is none."""
    rows = pay_rows(job, work, how)
    costs = chances(job, work)
    if isinstance(how, tuple):
        rows = [[sum(row[k] for k in group) for group in how] + row[-1:] for row in rows]
        costs = [sum(costs[k] for k in group) for group in how]
    best = None
    for chosen in combinations(rows, len(costs)):
        amounts = solved(chosen)
        if amounts is None:
            continue
        if all(sum(a * x for a, x in zip(row, amounts)) >= row[-1] for row in rows):
            cost = sum(chance * x for chance, x in zip(costs, amounts))
            best = cost if best is None or cost < best else best
    return best


def is_other(job, work, other):
    return 0 <= other < len(job) and other != work


def is_enough(job, work, how, pay, weights):
    """Whether a pay and weights are as in [4], or [7]."""
    if len(pay) != len(job.worths) or min(exact(amount) for amount in pay) < 0:
        return False
    if how is True and any(exact(a) > exact(b) for a, b in zip(pay, pay[1:])):
        return False
    if isinstance(how, tuple) and any(len({exact(pay[k]) for k in group}) > 1 for group in how):
        return False
    best = max([Fraction(0)] + [gain(job, other, pay) for other in range(len(job))])
    if gain(job, work, pay) != best:
        return False
    if not all(other is None or is_other(job, work, other) for other in weights):
        return False
    if any(exact(weight) < 0 for weight in weights.values()):
        return False
    mine = cases(job, work, how)
    for k, chance in enumerate(mine):
        its = {other: 0 if other is None else cases(job, other, how)[k] for other in weights}
        if sum(exact(weights[other]) * (chance - its[other]) for other in weights) > chance:
            return False
    efforts = {other: 0 if other is None else job.works[other][0] for other in weights}
    need = sum(exact(weights[other]) * (job.works[work][0] - efforts[other]) for other in weights)
    return need == average(job, work, pay)


def is_barred(job, work, how, mix):
    """Whether a mix is as in [4], or [7]."""
    if not all(is_other(job, work, other) for other in mix):
        return False
    if any(exact(part) < 0 for part in mix.values()) or sum(map(exact, mix.values())) != 1:
        return False
    for k, chance in enumerate(cases(job, work, how)):
        if sum(exact(mix[other]) * cases(job, other, how)[k] for other in mix) < chance:
            return False
    return sum(exact(mix[other]) * job.works[other][0] for other in mix) < job.works[work][0]


def worth(job, work):
    """The average worth with a work, 0 with None."""
    return 0 if work is None else sum(chance * each for chance, each in zip(chances(job, work), job.worths))


def share_choice(job, share):
    """The work that is done with a share, None for no work: all are put in order, and the first one is taken."""
    def key(work):
        pay = [share * each for each in job.worths]
        got = 0 if work is None else sum(a * b for a, b in zip(chances(job, work), pay)) - job.works[work][0]
        return (-got, -worth(job, work), -1 if work is None else work)
    return sorted([None] + list(range(len(job))), key=key)[0]


def share_crossings(job):
    """All shares at which two works, or a work and no work, gain as much; with 0, 1 and what lies between."""
    lines = [(Fraction(0), 0)] + [(worth(job, work), job.works[work][0]) for work in range(len(job))]
    found = {Fraction(0), Fraction(1)}
    for (one, cost), (other, its) in combinations(lines, 2):
        if one != other:
            found.add(Fraction(its - cost) / (other - one))
    found = sorted(share for share in found if 0 <= share <= 1)
    return sorted(found + [(a + b) / 2 for a, b in zip(found, found[1:])])


def all_groups(many):
    """All groups of so many outcomes, ascending."""
    found = [[]]
    for outcome in range(many):
        longer = [parts[:k] + [parts[k] + [outcome]] + parts[k + 1:] for parts in found for k in range(len(parts))]
        found = longer + [parts + [[outcome]] for parts in found]
    return sorted(tuple(sorted(tuple(group) for group in parts)) for parts in found)


def some_jobs(seed, many):
    """Jobs of all sizes, with many ties, equal works, efforts of 0 and outcomes that never come."""
    luck = Random(seed)
    found = []
    while len(found) < many:
        outcomes = luck.randint(2, 4)
        most = luck.choice((1, 2, 6))
        works = []
        for _ in range(luck.randint(2, 4)):
            parts = tuple(luck.randint(0, most) for _ in range(outcomes))
            if works and luck.random() < 0.2:
                parts = luck.choice(works)[1]
            if sum(parts) > 0:
                works.append((luck.randint(0, luck.choice((2, 9))), parts))
        if len(works) >= 2:
            found.append(Job(tuple(luck.randint(0, 20) for _ in range(outcomes)), tuple(works)))
    return found


def poorer(job):
    """The same job, but all is worth much less to the payer."""
    return Job(tuple(worth // 6 for worth in job.worths), job.works)


def some_pay(luck, job):
    """A pay for the job, often with equal amounts."""
    return tuple(pair(Fraction(luck.randint(0, 12), luck.choice((1, 1, 2, 3)))) for _ in job.worths)


def is_best(job, rising, work, needs):
    """Whether a work and needs are as in [5], except that the work need not be the first one."""
    if any(isinstance(key, bool) for key in needs) or sorted(needs) != list(range(len(job))):
        return False
    profits = [Fraction(0)]
    mine = None if work is None else False
    for key, need in needs.items():
        if isinstance(need, Barred):
            if not is_barred(job, key, rising, need.mix):
                return False
        elif not is_enough(job, key, rising, need.pay, need.weights):
            return False
        else:
            profits.append(worth(job, key) - average(job, key, need.pay))
            mine = profits[-1] if key == work and not isinstance(work, bool) else mine
    if work is None:
        return all(worth(job, key) < average(job, key, need.pay)
                   for key, need in needs.items() if isinstance(need, Enough))
    return mine is not False and mine == max(profits)


def offer_costs(job, work, offers):
    """The price and the least average pay together, for all offered groups that bring the work about."""
    least = {groups: least_average(job, work, groups) for groups in offers}
    return {groups: offers[groups] + cost for groups, cost in least.items() if cost is not None}


def is_offer(job, work, offers, groups, rows):
    """Whether groups and rows are as in [8], except that the groups need not be the first ones."""
    if len(rows) != len(offers) or any(key not in offers for key in rows):
        return False
    costs = {}
    for key, row in rows.items():
        if isinstance(row, Unseen):
            if not is_barred(job, work, key, row.mix):
                return False
        elif not is_enough(job, work, key, row.pay, row.weights):
            return False
        else:
            costs[key] = offers[key] + average(job, work, row.pay)
    if groups is None:
        return not costs
    return groups in costs and costs[groups] == min(costs.values())
