import copy
import unittest
from fractions import Fraction
from random import Random

from outcomepay.errors import BadJob, BadKinds, BadWish
from outcomepay.jobs import Job
from outcomepay.menus import Menu, NoMenu, best_wish, menu, menu_cost
from tests import model, model_menus
from tests.changes import changed_choices, changed_pays
from tests.wrong import WRONG_NUMBERS, Thing, anything

ZERO = (0, 1)
ONE = (1, 1)
JOB = Job((0, 4, 8), ((0, (2, 1, 1)), (2, (1, 2, 1))))
KINDS = ((1, (0, 2)), (1, (0, 4)))
PAY = (ZERO, (8, 1), ZERO)
NOTHING = (ZERO, ZERO, ZERO)
WEIGHTS = {(0, 0, 0): (3, 2), (1, 0, 0): (1, 2)}
BARS = {(0, 1, 1): ONE, (1, 0, 0): ONE}
SHOP = Job((0, 12), ((0, (5, 1)), (1, (1, 1))))
SHOP_KINDS = ((1, (0, 1)), (1, (0, 2)))


def tries(seed, many):
    """Jobs with kinds and all wishes."""
    luck = Random(seed)
    for job in [JOB, SHOP] + model.some_jobs(seed, many):
        kinds = model_menus.some_kinds(luck, job)
        for wish in model_menus.all_wishes(job):
            yield job, kinds, wish


def small(job):
    """Whether there are few enough corners to look at all of them."""
    return len(job.worths) == 2 and len(job) < 4 or len(job.worths) == 3 and len(job) == 2


class Finding(unittest.TestCase):
    def test_as_the_corners_tell(self):
        told = {Menu: 0, NoMenu: 0}
        for job, kinds, wish in tries(71, 45):
            if not small(job):
                continue
            cost = model_menus.least_menu(job, kinds, wish)
            found = menu(job, kinds, wish)
            self.assertIs(type(found), NoMenu if cost is None else Menu)
            self.assertEqual(menu_cost(job, kinds, wish), None if cost is None else model.pair(cost))
            if cost is not None:
                self.assertEqual(model_menus.menu_average(job, kinds, wish, found.pays), cost)
            told[type(found)] += 1
        self.assertGreater(min(told.values()), 30, told)

    def test_what_is_returned_is_shown(self):
        told = {Menu: 0, NoMenu: 0}
        for job, kinds, wish in tries(72, 250):
            found = menu(job, kinds, wish)
            self.assertIs(found.shows(job, kinds, wish), True)
            told[type(found)] += 1
            if isinstance(found, NoMenu):
                self.assertTrue(model_menus.is_no_menu(job, kinds, wish, found.weights))
                self.assertIsNone(menu_cost(job, kinds, wish))
                continue
            self.assertTrue(model_menus.is_menu(job, kinds, wish, found.pays, found.weights))
            self.assertEqual([type(found.pays), [type(pay) for pay in found.pays]], [tuple, [tuple, tuple]])
            cost = model_menus.menu_average(job, kinds, wish, found.pays)
            self.assertEqual(menu_cost(job, kinds, wish), model.pair(cost))
        self.assertGreater(min(told.values()), 200, told)

    def test_by_hand(self):
        self.assertEqual([menu_cost(JOB, KINDS, wish) for wish in ((1, 1), (1, 0), (0, 0), (0, 1))],
                         [(8, 1), (3, 1), ZERO, None])
        # A sale must pay 3 more for the kind 0, 6 more for the kind 1. Who does the work 0 takes the pay too.
        self.assertEqual([menu_cost(SHOP, SHOP_KINDS, wish) for wish in model_menus.all_wishes(SHOP)],
                         [ZERO, None, ONE, (3, 1)])
        pay = (ZERO, (3, 1))
        shown = Menu((pay, pay), {(0, 0, 0): ONE, (1, 0, 0): (1, 2)})
        self.assertIs(shown.shows(SHOP, SHOP_KINDS, (1, 0)), True)
        # It may as well have 1/2 for whatever comes out.
        shown.pays = (pay, ((1, 2), (1, 2)))
        self.assertIs(shown.shows(SHOP, SHOP_KINDS, (1, 0)), True)
        self.assertIs(NoMenu({(0, 1, 1): ONE, (1, 0, 0): ONE}).shows(SHOP, SHOP_KINDS, (0, 1)), True)

    def test_the_chances_of_the_kinds(self):
        for one in range(1, 7):
            for other in range(1, 7):
                kinds = ((one, (0, 1)), (other, (0, 2)))
                cost = Fraction(3 * one + other, 2 * (one + other))
                self.assertEqual(menu_cost(SHOP, kinds, (1, 0)), model.pair(cost))
                self.assertEqual(menu_cost(SHOP, kinds, (1, 1)), (3, 1))
                self.assertEqual(menu_cost(SHOP, kinds, (0, 0)), ZERO)
                self.assertTrue(menu(SHOP, kinds, (1, 0)).shows(SHOP, kinds, (1, 0)))

    def test_no_efforts(self):
        kinds = ((1, (0, 0, 0)), (6, (0, 0, 0)))
        job = Job((0, 1, 2), ((9, (1, 2, 3)), (8, (3, 0, 1)), (7, (0, 0, 1))))
        for wish in model_menus.all_wishes(job):
            self.assertEqual(menu_cost(job, kinds, wish), ZERO)
            self.assertTrue(Menu((NOTHING, NOTHING), {}).shows(job, kinds, wish))
            self.assertEqual(menu(job, kinds, wish).pays, (NOTHING, NOTHING))

    def test_the_efforts_of_the_job_do_not_count(self):
        for job, kinds, wish in tries(73, 20):
            other = Job(job.worths, tuple((9 - effort, parts) for effort, parts in job.works))
            self.assertEqual(menu(job, kinds, wish), menu(other, kinds, wish))
            self.assertEqual(best_wish(job, kinds), best_wish(other, kinds))

    def test_turned_kinds(self):
        for job, kinds, wish in tries(74, 80):
            found = menu(job, kinds, wish)
            weights = {(1 - kind, None if pay is None else 1 - pay, work): weight
                       for (kind, pay, work), weight in found.weights.items()}
            turned = NoMenu(weights) if isinstance(found, NoMenu) else Menu(found.pays[::-1], weights)
            self.assertTrue(turned.shows(job, kinds[::-1], wish[::-1]))
            self.assertEqual(menu_cost(job, kinds, wish), menu_cost(job, kinds[::-1], wish[::-1]))

    def test_new_each_time(self):
        for wish in ((1, 0), (0, 1)):
            found = menu(JOB, KINDS, wish)
            kept = copy.deepcopy(found)
            found.weights.clear()
            found.pays = None
            self.assertTrue(menu(JOB, KINDS, wish) == kept)


class Wishing(unittest.TestCase):
    def test_against_all_wishes(self):
        told = {"tied": 0, "less than nothing": 0, "not the first": 0}
        luck = Random(75)
        for job in model.some_jobs(76, 150) + [model.poorer(job) for job in model.some_jobs(77, 60)]:
            kinds = model_menus.some_kinds(luck, job)
            profits = {}
            for wish in model_menus.all_wishes(job):
                cost = menu_cost(job, kinds, wish)
                if cost is not None:
                    profits[wish] = model_menus.wish_worth(job, kinds, wish) - model.exact(cost)
            most = max(profits.values())
            best = sorted(wish for wish in profits if profits[wish] == most)
            self.assertEqual(best_wish(job, kinds), (best[0], model.pair(most)))
            told["tied"] += len(best) > 1
            told["less than nothing"] += most < 0
            told["not the first"] += best[0] != min(profits)
        self.assertGreater(min(told.values()), 10, told)

    def test_by_hand(self):
        self.assertEqual(best_wish(JOB, KINDS), ((0, 0), (3, 1)))
        # Worth 2 or 6: 2 for all doing nothing, 3 if one kind or both make the effort.
        self.assertEqual(best_wish(SHOP, SHOP_KINDS), ((1, 0), (3, 1)))
        self.assertEqual(best_wish(SHOP, ((1, (0, 1)), (2, (0, 2)))), ((1, 1), (3, 1)))
        self.assertEqual(best_wish(SHOP, ((2, (0, 1)), (1, (0, 2)))), ((1, 0), (7, 2)))

    def test_less_than_nothing_is_the_greatest(self):
        job = Job((0, 1), ((0, (1, 1)), (0, (1, 2))))
        self.assertEqual(best_wish(job, ((1, (9, 9)), (1, (9, 9)))), ((1, 1), (-25, 3)))
        self.assertEqual(best_wish(job, ((1, (9, 9)), (1, (9, 8)))), ((0, 1), (-95, 12)))

    def test_all_are_tied(self):
        job = Job((3, 3), ((0, (1, 1)), (0, (1, 2))))
        self.assertEqual(best_wish(job, ((6, (0, 0)), (1, (0, 0)))), ((0, 0), (3, 1)))
        self.assertEqual(best_wish(job, ((6, (1, 0)), (1, (0, 0)))), ((1, 0), (3, 1)))
        self.assertEqual(best_wish(job, ((6, (0, 0)), (1, (1, 0)))), ((0, 1), (3, 1)))


class MenuShows(unittest.TestCase):
    def no(self, pays, weights, job=JOB, kinds=KINDS, wish=(1, 0)):
        self.assertIs(Menu(pays, weights).shows(job, kinds, wish), False, (pays, weights))

    def yes(self, pays, weights, job=JOB, kinds=KINDS, wish=(1, 0)):
        self.assertIs(Menu(pays, weights).shows(job, kinds, wish), True, (pays, weights))

    def test_the_least_menu(self):
        self.yes((PAY, PAY), WEIGHTS)
        self.yes((PAY, PAY), {(1, 0, 0): (1, 2), (0, 0, 0): (3, 2)})
        self.yes((PAY, PAY), {(1, 0, 0): (1, 2), (0, None, None): ZERO, (0, 0, 0): (3, 2), (1, 1, 1): ZERO})
        self.yes((PAY, ((2, 1), (2, 1), (2, 1))), WEIGHTS)
        self.yes((NOTHING, NOTHING), {}, wish=(0, 0))

    def test_changed_pays(self):
        for pay in (NOTHING, (ZERO, (7, 1), ZERO), (ZERO, (9, 1), ZERO), (ONE, (9, 1), ONE), ((-1, 1), (8, 1), ZERO),
                    ((-1, 1), (9, 1), (-1, 1)), (ZERO, (8, 1), (-1, 1)), (ONE, ONE, ONE)):
            self.no((pay, PAY), WEIGHTS)
            self.no((PAY, pay), WEIGHTS)
            self.no((pay, pay), WEIGHTS)

    def test_pays_of_another_length(self):
        for pays in ((), (PAY,), (PAY, PAY, PAY), (PAY, PAY, ()), (PAY, PAY[:2]), (PAY[:2], PAY), (PAY, PAY + (ZERO,)),
                     (PAY + PAY, PAY), ((), ()), (PAY, ()), ((), PAY), ((ZERO, (8, 1)), (ZERO, (8, 1)))):
            self.no(pays, WEIGHTS)
            self.no(pays, {}, wish=(0, 0))

    def test_changed_weights(self):
        for weights in ({}, {(0, 0, 0): (3, 2)}, {(1, 0, 0): (1, 2)}, {(0, 0, 0): (3, 2), (1, 0, 0): ZERO},
                        {(0, 0, 0): (3, 2), (1, 0, 0): (1, 4)}, {(0, 0, 0): (3, 2), (1, 0, 0): ONE},
                        {(0, 0, 0): (3, 1), (1, 0, 0): ONE}, {(0, 0, 0): ONE, (1, 0, 0): (1, 2)},
                        {(0, 0, 0): (3, 2), (1, 0, 0): (-1, 2)}, {(0, 0, 0): (-3, 2), (1, 0, 0): (1, 2)},
                        {**WEIGHTS, (0, None, None): (1, 100)}, {**WEIGHTS, (1, 1, 1): (1, 100)},
                        {(0, None, None): (3, 2)}, {(0, 0, 0): (5, 2), (0, 1, 1): (-1, 1), (1, 0, 0): (1, 2)}):
            self.no((PAY, PAY), weights)

    def test_a_weight_below_nothing_does_not_count(self):
        # Of the kind 1, no work and the work 0 take the same effort: a weight below 0 changes no sum.
        job = Job((0, 0), ((0, (1, 1)), (1, (1, 1))))
        kinds = ((1, (0, 0)), (1, (0, 0)))
        nothing = (ZERO, ZERO)
        self.yes((nothing, nothing), {(0, 0, 1): ONE, (0, 1, 1): ZERO}, job, kinds, (0, 0))
        self.yes((nothing, nothing), {(0, 0, 1): (100, 1)}, job, kinds, (0, 0))
        self.no((nothing, nothing), {(0, 0, 1): (-1, 1)}, job, kinds, (0, 0))
        self.no((nothing, nothing), {(0, None, None): (-1, 1)}, job, kinds, (0, 0))

    def test_keys_that_are_no_other_choices(self):
        for choice in ((0, 0, 1), (1, 1, 0), (0, None, 0), (0, None, 1), (1, None, 0), (0, 0, None), (0, 1, None),
                       (1, 0, None), (2, 0, 0), (-1, 0, 0), (2, None, None), (-1, None, None), (None, None, None),
                       (None, 0, 0), (0, 2, 0), (0, -1, 0), (0, 0, 2), (0, 0, -1), (1, 0, 2), (1, 0, 10 ** 30),
                       (10 ** 30, 0, 0), (0, -10 ** 30, 0)):
            self.no((PAY, PAY), {**WEIGHTS, choice: ZERO})
            self.no((PAY, PAY), {choice: ZERO, **WEIGHTS})
            self.no((NOTHING, NOTHING), {choice: ZERO}, wish=(0, 0) if choice not in ((0, 0, 1), (1, 1, 0)) else (1, 0))
        for choice in ((), (0,), (0, 0), (0, 0, 0, 0), (0, 1, 0, None)):
            self.no((PAY, PAY), {**WEIGHTS, choice: ZERO})
        for choice in ((False, 0, 0), (0, False, 0), (0, 0, False), (1, False, 0), (True, None, None), (True, 0, 0)):
            kept = {key: weight for key, weight in WEIGHTS.items() if key != choice}
            self.no((PAY, PAY), {**kept, choice: WEIGHTS.get(choice, ZERO)})

    def test_all_other_choices_are_allowed(self):
        for wish, pays, weights in (((1, 0), (PAY, PAY), WEIGHTS), ((0, 0), (NOTHING, NOTHING), {})):
            others = model_menus.other_choices(JOB, wish)
            self.assertEqual(len(others), 8)
            self.yes(pays, {**dict.fromkeys(others, ZERO), **weights}, wish=wish)

    def test_another_job_kinds_or_wish(self):
        self.yes((PAY, PAY), WEIGHTS, job=Job((7, 7, 7), ((9, (2, 1, 1)), (9, (1, 2, 1)))))
        self.no((PAY, PAY), WEIGHTS, job=Job((0, 4, 8), ((0, (2, 1, 1)), (2, (1, 3, 1)))))
        self.no((PAY, PAY), WEIGHTS, job=Job((0, 4, 8, 0), ((0, (2, 1, 1, 0)), (2, (1, 2, 1, 0)))))
        for kinds in (((2, (0, 2)), (1, (0, 4))), ((1, (0, 2)), (2, (0, 4))), ((1, (0, 3)), (1, (0, 4))),
                      ((1, (0, 1)), (1, (0, 4))), ((1, (0, 2)), (1, (0, 1))), ((1, (1, 2)), (1, (0, 4))),
                      ((1, (0, 4)), (1, (0, 2)))):
            self.no((PAY, PAY), WEIGHTS, kinds=kinds)
        self.yes((PAY, PAY), WEIGHTS, kinds=((1, (0, 2)), (1, (0, 3))))
        for wish in ((0, 0), (0, 1), (1, 1)):
            self.no((PAY, PAY), WEIGHTS, wish=wish)

    def test_current_attributes(self):
        found = Menu((PAY, PAY), WEIGHTS)
        found.weights[(0, 0, 0)] = ONE
        self.assertFalse(found.shows(JOB, KINDS, (1, 0)))
        found.weights = dict(WEIGHTS)
        self.assertTrue(found.shows(JOB, KINDS, (1, 0)))
        found.pays = (PAY, NOTHING)
        self.assertFalse(found.shows(JOB, KINDS, (1, 0)))
        self.assertEqual(list(found), [PAY, NOTHING])

    def test_changes_are_judged_as_the_document_tells(self):
        luck = Random(78)
        told = {True: 0, False: 0}
        for job, kinds, wish in tries(79, 120):
            found = menu(job, kinds, wish)
            if isinstance(found, NoMenu):
                found = Menu((model.some_pay(luck, job), model.some_pay(luck, job)), found.weights)
            for _ in range(3):
                changed = Menu(changed_pays(luck, found.pays), changed_choices(luck, job, found.weights))
                other = wish if luck.random() < 0.9 else luck.choice(model_menus.all_wishes(job))
                kept = copy.deepcopy(changed)
                expected = model_menus.is_menu(job, kinds, other, changed.pays, changed.weights)
                self.assertIs(changed.shows(job, kinds, other), expected)
                self.assertEqual([changed, list(changed.weights)], [kept, list(kept.weights)])
                told[expected] += 1
        self.assertGreater(min(told.values()), 100, told)


class NoMenuShows(unittest.TestCase):
    def no(self, weights, job=JOB, kinds=KINDS, wish=(0, 1)):
        self.assertIs(NoMenu(weights).shows(job, kinds, wish), False, weights)

    def yes(self, weights, job=JOB, kinds=KINDS, wish=(0, 1)):
        self.assertIs(NoMenu(weights).shows(job, kinds, wish), True, weights)

    def test_weights_that_bar(self):
        self.yes(BARS)
        self.yes({(1, 0, 0): ONE, (0, 1, 1): ONE})
        self.yes({(1, 0, 0): (7, 2), (0, 1, 1): (7, 2)})
        self.yes({(1, 0, 0): (1, 1000), (0, None, None): ZERO, (0, 1, 1): (1, 1000)})
        # One kind alone: the same chances with less effort.
        job = Job((0, 0), ((5, (2, 2)), (5, (1, 1)), (5, (0, 1))))
        kinds = ((3, (4, 3, 0)), (1, (9, 9, 9)))
        self.yes({(0, 0, 1): ONE}, job, kinds, (0, 0))
        self.no({(1, 1, 1): ONE}, job, kinds, (0, 0))
        self.no({(0, 0, 0): ONE}, job, kinds, (1, 0))

    def test_changed_weights(self):
        for weights in ({}, {(0, 1, 1): ONE}, {(1, 0, 0): ONE}, {(0, 1, 1): ONE, (1, 0, 0): (2, 1)},
                        {(0, 1, 1): (2, 1), (1, 0, 0): ONE}, {(0, 1, 1): ZERO, (1, 0, 0): ZERO},
                        {(0, 1, 1): (-1, 1), (1, 0, 0): (-1, 1)}, {**BARS, (0, None, None): (1, 100)},
                        {**BARS, (1, None, None): ONE}, {**BARS, (1, 1, 0): ONE}, {**BARS, (0, 0, 1): (-1, 1)}):
            self.no(weights)

    def test_a_sum_of_nothing_is_not_enough(self):
        self.no(BARS, kinds=((1, (0, 2)), (1, (0, 2))))
        self.no(BARS, kinds=((1, (0, 3)), (1, (0, 2))))
        self.yes(BARS, kinds=((6, (9, 2)), (1, (0, 0))))
        self.yes(BARS, kinds=((6, (0, 0)), (1, (0, 1))))

    def test_keys_that_are_no_other_choices(self):
        for choice in ((0, 0, 0), (1, 1, 1), (0, None, 0), (0, 0, None), (1, 1, None), (2, 0, 0), (-1, 0, 0),
                       (2, None, None), (None, None, None), (0, 2, 0), (0, -1, 0), (0, 0, 2), (0, 0, -1), (),
                       (0, 1), (0, 0, 0, 0), (10 ** 30, 0, 0), (True, 0, 1), (False, True, 1), (0, None, False)):
            kept = {key: weight for key, weight in BARS.items() if key != choice}
            self.no({**kept, choice: BARS.get(choice, ZERO)})
            self.no({choice: ONE})

    def test_another_job_kinds_or_wish(self):
        self.yes(BARS, job=Job((7, 7, 7), ((9, (2, 1, 1)), (9, (1, 2, 1)))))
        self.yes(BARS, job=Job((0, 4), ((0, (2, 1)), (2, (1, 2)))))
        for wish in ((0, 0), (1, 0), (1, 1)):
            self.no(BARS, wish=wish)
        self.no(BARS, kinds=KINDS[::-1])

    def test_current_attributes(self):
        found = NoMenu(BARS)
        found.weights[(1, 0, 0)] = ZERO
        self.assertFalse(found.shows(JOB, KINDS, (0, 1)))
        found.weights = dict(BARS)
        self.assertTrue(found.shows(JOB, KINDS, (0, 1)))

    def test_changes_are_judged_as_the_document_tells(self):
        luck = Random(80)
        told = {True: 0, False: 0}
        for job, kinds, wish in tries(81, 120):
            weights = menu(job, kinds, wish).weights
            for _ in range(3):
                changed = NoMenu(changed_choices(luck, job, weights))
                kept = list(changed.weights.items())
                expected = model_menus.is_no_menu(job, kinds, wish, changed.weights)
                self.assertIs(changed.shows(job, kinds, wish), expected)
                self.assertEqual(list(changed.weights.items()), kept)
                told[expected] += 1
        self.assertGreater(min(told.values()), 100, told)


class Objects(unittest.TestCase):
    def test_attributes_and_copies(self):
        weights = {(1, None, None): ONE, (0, 0, 0): (1, 2)}
        for found in (Menu(pays=(PAY, NOTHING), weights=weights), NoMenu(weights=weights)):
            self.assertEqual(list(found.weights.items()), [((1, None, None), ONE), ((0, 0, 0), (1, 2))])
            found.weights[(0, 1, 1)] = ONE
            self.assertEqual(len(weights), 2)
        found = Menu((PAY, NOTHING), weights)
        none = NoMenu(weights)
        weights.clear()
        self.assertEqual([found.pays, len(found.weights), len(none.weights)], [(PAY, NOTHING), 2, 2])

    def test_iteration(self):
        found, none = Menu((PAY, NOTHING), WEIGHTS), NoMenu(BARS)
        for _ in range(2):
            self.assertEqual(list(found), [PAY, NOTHING])
            self.assertEqual(list(none), [((0, 1, 1), ONE), ((1, 0, 0), ONE)])
        first, second = found
        self.assertEqual((first, second), (PAY, NOTHING))
        none.weights[(0, 0, 1)] = ZERO
        self.assertEqual([choice for choice, weight in none], [(0, 1, 1), (1, 0, 0), (0, 0, 1)])
        self.assertEqual(list(NoMenu({})), [])
        self.assertEqual([[pay for pay in menu(JOB, KINDS, (0, 0))], dict(NoMenu(BARS))], [[NOTHING, NOTHING], BARS])

    def test_equality(self):
        turned = dict(reversed(list(WEIGHTS.items())))
        self.assertTrue(Menu((PAY, PAY), WEIGHTS) == Menu((PAY, PAY), turned))
        self.assertFalse(Menu((PAY, PAY), WEIGHTS) != Menu((PAY, PAY), turned))
        for other in (Menu((PAY, NOTHING), WEIGHTS), Menu((PAY,), WEIGHTS), Menu((PAY, PAY), {}), Menu((), {}),
                      Menu((PAY, PAY), {**WEIGHTS, (0, None, None): ZERO}), Menu((PAY, PAY), BARS)):
            self.assertTrue(Menu((PAY, PAY), WEIGHTS) != other)
            self.assertFalse(Menu((PAY, PAY), WEIGHTS) == other)
        self.assertTrue(NoMenu(WEIGHTS) == NoMenu(turned))
        self.assertFalse(NoMenu(WEIGHTS) != NoMenu(turned))
        for other in (NoMenu({}), NoMenu(BARS), NoMenu({**WEIGHTS, (0, None, None): ZERO})):
            self.assertTrue(NoMenu(WEIGHTS) != other)
            self.assertFalse(NoMenu(WEIGHTS) == other)

    def test_methods_stand_in_the_classes(self):
        for made in (Menu, NoMenu):
            for name in ("__init__", "__iter__", "__eq__", "shows"):
                self.assertIn(name, vars(made))


def wrong_kinds():
    """Kinds that are none, for a job with two works."""
    good = (1, (0, 2))
    found = anything() + [(good,), (good, good, good), [good, good], good, (list(good), good), (good, list(good)),
                          (good, None), (None, good), ((1,), good), (good, ()), (good, (1, (0, 2), 0)), {good: good},
                          ((1, [0, 2]), good), (good, (1, [0, 2])), ((1, None), good), ((1, 2), good), (good, (1, "02")),
                          (((0, 2), 1), good), (Thing(), good), ("ab", "cd"), iter((good, good))]
    for number in WRONG_NUMBERS + (0, 7, -1, 10 ** 40, ONE):
        found += [((number, (0, 2)), good), (good, (number, (0, 2)))]
    for effort in WRONG_NUMBERS + (-1, 10, 10 ** 40, -10 ** 40, ZERO):
        found += [((1, (effort, 2)), good), (good, (1, (0, effort))), (good, (1, (effort, 0)))]
    for efforts in ((), (0,), (0, 2, 4), (0, 2, 0, 2)):
        found += [((1, efforts), good), (good, (1, efforts)), ((1, efforts), (1, efforts))]
    return found


def wrong_wishes():
    """Wishes that are none, for a job with two works; a pair of 0 and 1 is one."""
    found = [thing for thing in anything() if thing != (0, 1)] + [[0, 1], [1, 0], (0, 1, 0), (1,), "01", range(2)]
    for work in WRONG_NUMBERS + (-1, 2, 3, 10 ** 40):
        found += [(work, 0), (1, work), (work, work)]
    return found


class Refusing(unittest.TestCase):
    CALLS = (menu, menu_cost, Menu((PAY, PAY), WEIGHTS).shows, Menu((), {}).shows, NoMenu(BARS).shows, NoMenu({}).shows)

    def check(self, error, call, *arguments):
        with self.assertRaises(error, msg=arguments) as caught:
            call(*arguments)
        self.assertIs(type(caught.exception), error)
        if error is BadJob:
            self.assertIsNone(caught.exception.part)

    def test_wrong_jobs(self):
        for job in anything() + [PAY, menu(JOB, KINDS, (1, 0)), (JOB.worths, JOB.works)]:
            for call in self.CALLS:
                self.check(BadJob, call, job, KINDS, (1, 0))
            self.check(BadJob, best_wish, job, KINDS)

    def test_wrong_kinds(self):
        for call in self.CALLS:
            for kinds in wrong_kinds():
                self.check(BadKinds, call, JOB, kinds, (1, 0))
        for kinds in wrong_kinds():
            self.check(BadKinds, best_wish, JOB, kinds)

    def test_efforts_for_another_number_of_works(self):
        for works in (2, 3, 4):
            job = Job((0, 1), ((0, (1, 1)),) * works)
            for many in range(6):
                kinds = ((1, (0,) * many), (1, (0,) * many))
                if many == works:
                    self.assertEqual(menu_cost(job, kinds, (0, works - 1)), ZERO)
                else:
                    self.check(BadKinds, menu, job, kinds, (0, 0))
                    self.check(BadKinds, best_wish, job, (kinds[0], (1, (0,) * works)))

    def test_wrong_wishes(self):
        for call in self.CALLS:
            for wish in wrong_wishes():
                self.check(BadWish, call, JOB, KINDS, wish)

    def test_numbers_at_the_limits(self):
        for number in (1, 6):
            for effort in (0, 9):
                kinds = ((number, (effort, 9)), (7 - number, (0, effort)))
                for wish in model_menus.all_wishes(JOB):
                    self.assertTrue(menu(JOB, kinds, wish).shows(JOB, kinds, wish))
        for wish in ((0, 2), (2, 0), (2, 2), (0, 3)):
            job = Job((0, 1), ((0, (1, 1)),) * 4)
            self.assertEqual(menu_cost(job, ((1, (0,) * 4),) * 2, wish), ZERO)

    def test_the_first_error_is_raised(self):
        for call in self.CALLS:
            for job in (None, True, (JOB.worths, JOB.works)):
                for kinds in (KINDS, None, KINDS[:1], list(KINDS)):
                    for wish in ((1, 0), None, (1, 2), [1, 0]):
                        self.check(BadJob, call, job, kinds, wish)
                    self.check(BadJob, best_wish, job, kinds)
            for kinds in (None, KINDS[:1], list(KINDS), KINDS + KINDS, ((0, (0, 2)), (1, (0, 4)))):
                for wish in ((1, 0), None, (1, 2), [1, 0], (True, 0)):
                    self.check(BadKinds, call, JOB, kinds, wish)

    def test_refused_calls_change_nothing(self):
        found = Menu((PAY, PAY), WEIGHTS)
        kept = copy.deepcopy(found)
        kinds, wish = [(1, [0, 2]), (1, (0, 4))], [1, 0]
        self.check(BadKinds, found.shows, JOB, kinds, wish)
        self.check(BadWish, found.shows, JOB, KINDS, wish)
        self.assertEqual([found, kinds, wish], [kept, [(1, [0, 2]), (1, (0, 4))], [1, 0]])


if __name__ == "__main__":
    unittest.main()
