"""Menus computed in another way: with Fraction, choice by choice, and by looking at all corners."""

from fractions import Fraction

from tests.model import average, chances, exact, worth


def kind_chance(kinds, kind):
    return Fraction(kinds[kind][0], kinds[0][0] + kinds[1][0])


def choice_gain(job, kinds, pays, kind, pay, work):
    """What a worker of a kind gains with a pay and a work, or with no work."""
    return 0 if work is None else average(job, work, pays[pay]) - kinds[kind][1][work]


def brings_about(job, kinds, wish, pays):
    for kind in (0, 1):
        gains = [choice_gain(job, kinds, pays, kind, pay, work) for pay in (0, 1) for work in range(len(job))]
        if choice_gain(job, kinds, pays, kind, kind, wish[kind]) < max([0] + gains):
            return False
    return True


def menu_average(job, kinds, wish, pays):
    return sum(kind_chance(kinds, kind) * average(job, wish[kind], pays[kind]) for kind in (0, 1))


def other_choices(job, wish):
    found = []
    for kind in (0, 1):
        found.append((kind, None, None))
        for pay in (0, 1):
            found += [(kind, pay, work) for work in range(len(job)) if not (pay == kind and work == wish[kind])]
    return found


def demand(job, wish, choice, pay, outcome):
    kind, chosen, work = choice
    mine = chances(job, wish[kind])[outcome] if pay == kind else 0
    return mine - (chances(job, work)[outcome] if pay == chosen else 0)


def difference(kinds, wish, choice):
    kind, pay, work = choice
    return kinds[kind][1][wish[kind]] - (0 if work is None else kinds[kind][1][work])


def places(job):
    return [(pay, outcome) for pay in (0, 1) for outcome in range(len(job.worths))]


def least_menu(job, kinds, wish):
    """The least average pay of a menu that brings the wish about, None if there is none."""
    at = places(job)
    rows = [[Fraction(int(one == other)) for other in at] + [Fraction(0)] for one in at]
    for choice in other_choices(job, wish):
        row = [demand(job, wish, choice, *place) for place in at] + [difference(kinds, wish, choice)]
        if row not in rows:
            rows.append(row)
    costs = [kind_chance(kinds, pay) * chances(job, wish[pay])[outcome] for pay, outcome in at]
    best = None
    for amounts in corners(rows, [], 0):
        if all(sum(a * x for a, x in zip(row, amounts) if a) >= row[-1] for row in rows):
            cost = sum(a * x for a, x in zip(costs, amounts))
            best = cost if best is None or cost < best else best
    return best


def corners(rows, held, start):
    """The points at which as many independent rows are met exactly as there are amounts.

    `held` has the solved rows so far: pairs of the column that the row tells, and the row.
    """
    many = len(rows[0]) - 1
    if len(held) == many:
        yield [row[-1] for column, row in sorted(held)]
        return
    for at in range(start, len(rows) - (many - len(held)) + 1):
        row = rows[at]
        for column, other in held:
            row = less(row, row[column], other)
        column = next((k for k in range(many) if row[k]), None)
        if column is not None:
            row = [entry / row[column] for entry in row]
            further = [(k, less(other, other[column], row)) for k, other in held]
            yield from corners(rows, further + [(column, row)], at + 1)


def less(row, factor, other):
    return [entry - factor * part for entry, part in zip(row, other)] if factor else row


def are_weights(job, wish, weights):
    """Whether this is a dict from some other choices to fractions of at least 0."""
    choices = other_choices(job, wish)
    if any(isinstance(part, bool) for choice in weights for part in choice):
        return False
    return all(choice in choices and exact(weight) >= 0 for choice, weight in weights.items())


def sums(job, wish, weights):
    """For each pay and outcome, the sum of what the choices demand, multiplied by their weights."""
    return [sum(exact(weights[choice]) * demand(job, wish, choice, *place) for choice in weights)
            for place in places(job)]


def reached(kinds, wish, weights):
    return sum(exact(weights[choice]) * difference(kinds, wish, choice) for choice in weights)


def is_menu(job, kinds, wish, pays, weights):
    """Whether pays and weights are as in [9]."""
    if len(pays) != 2 or any(len(pay) != len(job.worths) or min(map(exact, pay)) < 0 for pay in pays):
        return False
    if not brings_about(job, kinds, wish, pays) or not are_weights(job, wish, weights):
        return False
    limits = [kind_chance(kinds, pay) * chances(job, wish[pay])[outcome] for pay, outcome in places(job)]
    if any(found > limit for found, limit in zip(sums(job, wish, weights), limits)):
        return False
    return reached(kinds, wish, weights) == menu_average(job, kinds, wish, pays)


def is_no_menu(job, kinds, wish, weights):
    """Whether weights are as in [9] where no menu brings the wish about."""
    if not are_weights(job, wish, weights) or max(sums(job, wish, weights)) > 0:
        return False
    return reached(kinds, wish, weights) > 0


def wish_worth(job, kinds, wish):
    return sum(kind_chance(kinds, kind) * worth(job, wish[kind]) for kind in (0, 1))


def all_wishes(job):
    return [(one, other) for one in range(len(job)) for other in range(len(job))]


def some_kinds(luck, job):
    """Kinds for a job, often with the efforts of the job, with the same efforts, or with efforts of 0."""
    most = luck.choice((1, 3, 9))

    def efforts():
        if luck.random() < 0.2:
            return tuple(effort for effort, parts in job.works)
        return tuple(luck.randint(0, most) for _ in range(len(job)))

    one = efforts()
    other = one if luck.random() < 0.2 else efforts()
    return ((luck.choice((1, 1, 2, 5, 6)), one), (luck.choice((1, 2, 3, 6)), other))
