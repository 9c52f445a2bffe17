"""The promises computed in another way: with Fraction, by looking at all corners."""

from fractions import Fraction
from itertools import combinations
from random import Random

from outcomepay.jobs import Job


def exact(pair):
    return Fraction(pair[0], pair[1])


def pair(number):
    number = Fraction(number)
    return (number.numerator, number.denominator)


def chances(job, work):
    parts = job.works[work][1]
    return [Fraction(part, sum(parts)) for part in parts]


def average(job, work, pay):
    return sum(chance * exact(amount) for chance, amount in zip(chances(job, work), pay))


def gain(job, work, pay):
    return average(job, work, pay) - job.works[work][0]


def cases(job, work, rising):
    row = chances(job, work)
    return [sum(row[k:]) for k in range(len(row))] if rising else row


def solved(rows):
    """The solution of as many equations as unknowns, None if there is not exactly one."""
    rows = [list(row) for row in rows]
    many = len(rows)
    for column in range(many):
        at = next((k for k in range(column, many) if rows[k][column] != 0), None)
        if at is None:
            return None
        rows[column], rows[at] = rows[at], rows[column]
        pivot = rows[column][column]
        rows[column] = [entry / pivot for entry in rows[column]]
        for k in range(many):
            if k != column and rows[k][column] != 0:
                factor = rows[k][column]
                rows[k] = [entry - factor * part for entry, part in zip(rows[k], rows[column])]
    return [row[-1] for row in rows]


def pay_rows(job, work, rising):
    """Rows (a, .., b): a pay x brings the work about if a * x + .. >= b for all of them."""
    many = len(job.worths)
    mine = chances(job, work)
    effort = job.works[work][0]
    rows = [[Fraction(int(k == j)) for j in range(many)] + [Fraction(0)] for k in range(many)]
    rows.append(mine + [Fraction(effort)])
    for other in range(len(job)):
        if other != work:
            its = chances(job, other)
            rows.append([a - b for a, b in zip(mine, its)] + [Fraction(effort - job.works[other][0])])
    if rising:
        for k in range(1, many):
            rows.append([Fraction(int(j == k) - int(j == k - 1)) for j in range(many)] + [Fraction(0)])
    return rows


def least_average(job, work, rising):
    """The least average of a pay that brings the work about, None if there is none."""
    many = len(job.worths)
    rows = pay_rows(job, work, rising)
    best = None
    for chosen in combinations(rows, many):
        pay = solved(chosen)
        if pay is None:
            continue
        if all(sum(a * x for a, x in zip(row, pay)) >= row[-1] for row in rows):
            cost = sum(chance * x for chance, x in zip(chances(job, work), pay))
            best = cost if best is None or cost < best else best
    return best


def is_other(job, work, other):
    return 0 <= other < len(job) and other != work


def is_enough(job, work, rising, pay, weights):
    """Whether a pay and weights are as in [4]."""
    if len(pay) != len(job.worths) or min(exact(amount) for amount in pay) < 0:
        return False
    if rising and any(exact(a) > exact(b) for a, b in zip(pay, pay[1:])):
        return False
    best = max([Fraction(0)] + [gain(job, other, pay) for other in range(len(job))])
    if gain(job, work, pay) != best:
        return False
    if not all(other is None or is_other(job, work, other) for other in weights):
        return False
    if any(exact(weight) < 0 for weight in weights.values()):
        return False
    mine = cases(job, work, rising)
    for k, chance in enumerate(mine):
        its = {other: 0 if other is None else cases(job, other, rising)[k] for other in weights}
        if sum(exact(weights[other]) * (chance - its[other]) for other in weights) > chance:
            return False
    efforts = {other: 0 if other is None else job.works[other][0] for other in weights}
    need = sum(exact(weights[other]) * (job.works[work][0] - efforts[other]) for other in weights)
    return need == average(job, work, pay)


def is_barred(job, work, rising, mix):
    """Whether a mix is as in [4]."""
    if not all(is_other(job, work, other) for other in mix):
        return False
    if any(exact(part) < 0 for part in mix.values()) or sum(map(exact, mix.values())) != 1:
        return False
    for k, chance in enumerate(cases(job, work, rising)):
        if sum(exact(mix[other]) * cases(job, other, rising)[k] for other in mix) < chance:
            return False
    return sum(exact(mix[other]) * job.works[other][0] for other in mix) < job.works[work][0]


def some_jobs(seed, many):
    """Jobs of all sizes, with many ties, equal works, efforts of 0 and outcomes that never come."""
    luck = Random(seed)
    found = []
    while len(found) < many:
        outcomes = luck.randint(2, 4)
        most = luck.choice((1, 2, 6))
        works = []
        for _ in range(luck.randint(2, 4)):
            parts = tuple(luck.randint(0, most) for _ in range(outcomes))
            if works and luck.random() < 0.2:
                parts = luck.choice(works)[1]
            if sum(parts) > 0:
                works.append((luck.randint(0, luck.choice((2, 9))), parts))
        if len(works) >= 2:
            found.append(Job(tuple(luck.randint(0, 20) for _ in range(outcomes)), tuple(works)))
    return found


def some_pay(luck, job):
    """A pay for the job, often with equal amounts."""
    return tuple(pair(Fraction(luck.randint(0, 12), luck.choice((1, 1, 2, 3)))) for _ in job.worths)
