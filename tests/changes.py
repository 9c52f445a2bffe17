"""Answers that are changed a little, so that they may be wrong."""

from fractions import Fraction

from tests import model

ZERO = (0, 1)
ONE = (1, 1)


def changed_number(luck, fraction):
    step = Fraction(luck.choice((-1, 1)), luck.choice((1, 2, 4, 100)))
    return model.pair(model.exact(fraction) + step)


def changed_pay(luck, pay):
    """The pay, or one with another amount, another order or another length."""
    choice = luck.randrange(6)
    if choice == 0:
        at = luck.randrange(len(pay))
        return pay[:at] + (changed_number(luck, pay[at]),) + pay[at + 1:]
    if choice == 1:
        return tuple(luck.sample(pay, len(pay)))
    if choice == 2:
        return luck.choice((pay[1:], pay + (ZERO,), pay + pay[:1], ()))
    return pay


def changed_dict(luck, job, held, none):
    """The dict in any order, or one with another number, one more or one less."""
    items = list(held.items())
    luck.shuffle(items)
    found = dict(items)
    choice = luck.randrange(5)
    if choice == 0 and found:
        key = luck.choice(list(found))
        found[key] = changed_number(luck, found[key])
    elif choice == 1:
        key = luck.randrange(-len(job), len(job) + 2)
        found[key] = luck.choice((ZERO, (1, 2), found.get(key, ONE)))
    elif choice == 2 and found:
        del found[luck.choice(list(found))]
    elif choice == 3 and none:
        found[None] = luck.choice((ZERO, (1, 100)))
    return found


def changed_choices(luck, job, weights):
    """Weights of choices in any order, or with another number, one more or one less."""
    items = list(weights.items())
    luck.shuffle(items)
    found = dict(items)
    choice = luck.randrange(6)
    if choice == 0 and found:
        key = luck.choice(list(found))
        found[key] = changed_number(luck, found[key])
    elif choice == 1:
        key = some_choice(luck, job)
        found[key] = luck.choice((ZERO, (1, 2), found.get(key, ONE)))
    elif choice == 2 and found:
        del found[luck.choice(list(found))]
    elif choice == 3 and found:
        found = {key: model.pair(2 * model.exact(weight)) for key, weight in found.items()}
    return found


def some_choice(luck, job):
    """A triple that may be another choice, or none at all."""
    if luck.random() < 0.3:
        return (luck.randint(0, 1), None, None)
    return (luck.randint(-1, 2), luck.choice((0, 1, 0, 1, 2, -1, None)), luck.choice((*range(-1, len(job) + 1), None)))


def changed_pays(luck, pays):
    """Both pays, or a changed one, or both turned, or one more or one less."""
    choice = luck.randrange(8)
    if choice == 0:
        return pays[::-1]
    if choice == 1:
        return luck.choice(((), pays[:1], pays + pays[:1]))
    if choice < 4:
        at = luck.randint(0, 1)
        return pays[:at] + (changed_pay(luck, pays[at]),) + pays[at + 1:]
    return pays
