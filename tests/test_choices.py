import copy
import unittest
from fractions import Fraction
from random import Random

from outcomepay.choices import Best, best_profit, choose
from outcomepay.errors import BadJob
from outcomepay.jobs import Job
from outcomepay.pays import Barred, Enough, least_pay, pay_cost
from tests import model
from tests.changes import changed_dict, changed_pay
from tests.wrong import anything

ZERO = (0, 1)
ONE = (1, 1)
JOB = Job((0, 10), ((0, (3, 1)), (2, (1, 1)), (5, (1, 3))))
POOR = Job((0, 1), ((1, (1, 1)), (2, (1, 2))))
TIED = Job((0, 10), ((1, (1, 1)), (1, (2, 2)), (1, (3, 3))))
EVEN = Job((0, 2), ((1, (1, 1)), (2, (1, 1))))
MIXED = Job((0, 5, 9), ((3, (1, 2, 1)), (1, (1, 1, 0)), (2, (0, 1, 1))))
HANDS = (JOB, POOR, TIED, EVEN, MIXED)


def tries(seed, many):
    """Jobs, a part of them worth little, with pays and with rising pays."""
    for job in list(HANDS) + model.some_jobs(seed, many):
        for each in (job, model.poorer(job)):
            for rising in (False, True):
                yield each, rising


class Choosing(unittest.TestCase):
    def test_as_the_corners_tell(self):
        told = {"work": 0, "none": 0, "later": 0, "barred": 0, "zero": 0}
        for job, rising in tries(21, 70):
            found = choose(job, rising=rising)
            profits = {}
            for work in range(len(job)):
                cost = model.least_average(job, work, rising)
                self.assertIs(type(found.needs[work]), Barred if cost is None else Enough)
                told["barred"] += cost is None
                if cost is not None:
                    profits[work] = model.worth(job, work) - cost
            best = max(profits.values())
            expected = min(work for work in profits if profits[work] == best) if best >= 0 else None
            self.assertEqual(found.work, expected)
            self.assertEqual(best_profit(job, rising=rising), model.pair(max(best, Fraction(0))))
            told["none" if expected is None else "work"] += 1
            told["later"] += expected is not None and expected > 0
            told["zero"] += best == 0
        self.assertGreater(min(told.values()), 9, told)

    def test_what_is_returned_is_shown(self):
        for job, rising in tries(22, 150):
            found = choose(job, rising=rising)
            self.assertIs(type(found), Best)
            self.assertIs(found.shows(job, rising=rising), True)
            self.assertTrue(model.is_best(job, rising, found.work, found.needs))
            self.assertEqual(list(found.needs), list(range(len(job))))
            for work, need in found:
                self.assertIs(need.shows(job, work, rising=rising), True)

    def test_by_hand(self):
        # Chances of 10 are 1/4, 1/2, 3/4: worth 5/2, 5, 15/2; the pays cost 0, 4, 9.
        self.assertEqual([choose(JOB).work, best_profit(JOB)], [0, (5, 2)])
        # Worth 0, 10, 15; an outcome 1 that is paid with 4 makes all gains 0, and costs 0, 2, 3.
        rich = Job((0, 20), ((0, (1, 0)), (2, (1, 1)), (3, (1, 3))))
        self.assertEqual([pay_cost(rich, work) for work in range(3)], [ZERO, (2, 1), (3, 1)])
        self.assertEqual([choose(rich).work, best_profit(rich)], [2, (12, 1)])
        # Worth 1/2 and 2/3; the works cost 1 and 4: the second one gains more than the first one from 6 on.
        self.assertEqual([pay_cost(POOR, work) for work in range(2)], [ONE, (4, 1)])
        self.assertEqual([choose(POOR).work, best_profit(POOR)], [None, ZERO])

    def test_rising_pays_choose_otherwise(self):
        # The middle outcome tells the harder work: 8 for it costs 4, 8 for it and the last one 6.
        job = Job((0, 10, 0), ((0, (2, 1, 1)), (2, (1, 2, 1))))
        self.assertEqual([best_profit(job), best_profit(job, rising=True)], [(5, 2), (5, 2)])
        job = Job((0, 20, 0), ((0, (2, 1, 1)), (2, (1, 2, 1))))
        self.assertEqual([choose(job).work, choose(job, rising=True).work], [1, 0])
        self.assertEqual([best_profit(job), best_profit(job, rising=True)], [(6, 1), (5, 1)])
        self.assertEqual(choose(job), choose(job, rising=False))
        self.assertEqual(best_profit(job), best_profit(job, rising=False))
        for call in (choose, best_profit, choose(job).shows):
            with self.assertRaises(TypeError):
                call(job, True)

    def test_ties(self):
        found = choose(TIED)
        self.assertEqual([found.work, best_profit(TIED)], [0, (4, 1)])
        for work in range(3):
            self.assertIs(Best(work, found.needs).shows(TIED), True)
        self.assertIs(Best(None, found.needs).shows(TIED), False)

    def test_a_profit_of_zero(self):
        found = choose(EVEN)
        self.assertEqual([found.work, best_profit(EVEN)], [0, ZERO])
        self.assertIs(type(found.needs[1]), Barred)
        self.assertFalse(Best(None, found.needs).shows(EVEN))
        self.assertFalse(Best(1, found.needs).shows(EVEN))

    def test_barred_works(self):
        worthy = Job((20, 20), ((9, (1, 1)), (0, (2, 2)), (9, (3, 3)), (1, (4, 4))))
        found = choose(worthy)
        self.assertEqual([type(need) for work, need in found], [Barred, Enough, Barred, Barred])
        self.assertEqual([found.work, best_profit(worthy)], [1, (20, 1)])
        # The work with the least effort is never barred: only a wrong Best bars all.
        self.assertFalse(Best(None, {work: Barred({1: ONE}) for work in range(4)}).shows(worthy))
        self.assertFalse(Best(0, found.needs).shows(worthy))
        self.assertFalse(Best(None, found.needs).shows(worthy))
        mixed = choose(MIXED)
        self.assertIs(type(mixed.needs[0]), Barred)
        self.assertFalse(Best(0, mixed.needs).shows(MIXED))
        # Barred and worth the most, beside a work that costs more than it is worth.
        waste = Job((0, 0), ((2, (1, 1)), (1, (1, 1))))
        self.assertEqual([choose(waste).work, best_profit(waste)], [None, ZERO])
        self.assertTrue(Best(None, choose(waste).needs).shows(waste))
        self.assertFalse(Best(1, choose(waste).needs).shows(waste))

    def test_new_each_time(self):
        first = choose(JOB)
        first.needs[0].pay = None
        first.needs.clear()
        first.work = 7
        self.assertTrue(choose(JOB).shows(JOB))

    def test_wrong_jobs(self):
        shown = [choose(JOB).shows, Best(None, {}).shows, Best(5, {0: Barred({})}).shows]
        for call in [choose, best_profit] + shown:
            for more in ({}, {"rising": False}, {"rising": True}):
                for job in anything() + [((0, 10), ((0, (1, 1)), (0, (1, 1)))), choose(JOB)]:
                    with self.assertRaises(BadJob) as caught:
                        call(job, **more)
                    self.assertIsNone(caught.exception.part)


class Showing(unittest.TestCase):
    def setUp(self):
        self.needs = choose(JOB).needs

    def no(self, work, needs, job=JOB, **more):
        self.assertIs(Best(work, needs).shows(job, **more), False, (work, needs))

    def yes(self, work, needs, job=JOB, **more):
        self.assertIs(Best(work, needs).shows(job, **more), True, (work, needs))

    def test_another_work(self):
        self.yes(0, self.needs)
        for work in (None, 1, 2, 3, -1, -3, 10 ** 30, -10 ** 30, False):
            self.no(work, self.needs)
        for work in (0, 1, True, False, 2, -1):
            self.no(work, choose(POOR).needs, POOR)

    def test_any_order(self):
        self.yes(0, {work: self.needs[work] for work in (2, 0, 1)})
        self.yes(0, {work: self.needs[work] for work in (1, 2, 0)})

    def test_a_missing_answer(self):
        for gone in range(3):
            self.no(0, {work: need for work, need in self.needs.items() if work != gone})
        self.no(0, {})
        self.no(None, {})

    def test_a_further_answer(self):
        for further in (3, -1, -3, 10 ** 20):
            self.no(0, {**self.needs, further: self.needs[0]})
            self.no(0, {0: self.needs[0], 1: self.needs[1], further: self.needs[2]})

    def test_boolean_keys(self):
        self.no(0, {0: self.needs[0], True: self.needs[1], 2: self.needs[2]})
        self.no(0, {False: self.needs[0], 1: self.needs[1], 2: self.needs[2]})
        poor = choose(POOR).needs
        self.yes(None, {0: poor[0], 1: poor[1]}, POOR)
        self.no(None, {False: poor[0], True: poor[1]}, POOR)

    def test_a_changed_answer(self):
        self.no(0, {**self.needs, 2: Enough((ZERO, (13, 1)), {1: (3, 1)})})
        self.no(0, {**self.needs, 2: Enough((ZERO, (12, 1)), {1: (2, 1)})})
        self.no(0, {**self.needs, 2: Enough((ZERO, (12, 1)), {})})
        self.no(0, {**self.needs, 2: Enough((ZERO,), {1: (3, 1)})})
        self.no(0, {**self.needs, 2: Barred({0: ONE})})
        self.no(0, {**self.needs, 0: Enough((ONE, ZERO), {})})
        self.no(0, {**self.needs, 0: self.needs[1], 1: self.needs[0]})
        mixed = choose(MIXED)
        self.yes(mixed.work, mixed.needs, MIXED)
        self.no(mixed.work, {**mixed.needs, 0: Barred({2: ONE})}, MIXED)
        self.no(mixed.work, {**mixed.needs, 0: Barred({1: (1, 2), 2: (1, 4)})}, MIXED)
        self.no(mixed.work, {**mixed.needs, 0: mixed.needs[1]}, MIXED)

    def test_other_pays_of_the_same_average(self):
        # Any pay with the average 4 brings the work 0 about: both works are done alike, for 4 and 5.
        job = Job((0, 10), ((4, (1, 1)), (5, (1, 1))))
        for pay in (((4, 1), (4, 1)), (ZERO, (8, 1)), ((8, 1), ZERO)):
            self.yes(0, {0: Enough(pay, {None: ONE}), 1: Barred({0: ONE})}, job)

    def test_rising_is_regarded(self):
        job = Job((0, 20, 0), ((0, (2, 1, 1)), (2, (1, 2, 1))))
        plain, rising = choose(job), choose(job, rising=True)
        self.assertEqual([plain.shows(job), rising.shows(job, rising=True)], [True, True])
        self.assertEqual([plain.shows(job, rising=True), rising.shows(job)], [False, False])
        self.no(0, plain.needs, job)
        self.no(1, rising.needs, job, rising=True)

    def test_current_attributes(self):
        best = choose(JOB)
        best.work = 1
        self.assertFalse(best.shows(JOB))
        self.assertTrue(best != choose(JOB))
        best.work = 0
        self.assertTrue(best.shows(JOB))
        self.assertTrue(best == choose(JOB))
        best.needs[2].weights[1] = (2, 1)
        self.assertFalse(best.shows(JOB))
        self.assertTrue(best != choose(JOB))
        best.needs[2] = least_pay(JOB, 2)
        self.assertTrue(best.shows(JOB))
        best.needs[1].pay = ((9, 1), ZERO)
        self.assertFalse(best.shows(JOB))
        best.needs = choose(JOB).needs
        self.assertTrue(best.shows(JOB))
        best.needs = {}
        self.assertFalse(best.shows(JOB))
        self.assertEqual(list(best), [])

    def test_nothing_is_changed(self):
        for job in (JOB, POOR, MIXED, TIED):
            best = choose(job)
            kept = copy.deepcopy(best)
            best.shows(job)
            best.shows(JOB, rising=True)
            self.assertEqual(best, kept)
            self.assertEqual(list(best.needs), list(kept.needs))

    def test_changes_are_judged_as_the_document_tells(self):
        luck = Random(23)
        told = {True: 0, False: 0}
        for job, rising in tries(24, 100):
            found = choose(job, rising=rising)
            for _ in range(3):
                changed = Best(changed_work(luck, job, found.work), changed_needs(luck, job, found.needs))
                expected = model.is_best(job, rising, changed.work, changed.needs)
                self.assertIs(changed.shows(job, rising=rising), expected)
                told[expected] += 1
        self.assertGreater(min(told.values()), 100, told)


class Objects(unittest.TestCase):
    def test_attributes_and_copies(self):
        needs = {2: Barred({0: ONE}), 0: Enough((ZERO, ONE), {})}
        best = Best(work=1, needs=needs)
        self.assertEqual([best.work, list(best.needs.items())], [1, list(needs.items())])
        best.needs[1] = Barred({})
        self.assertEqual(list(needs), [2, 0])
        needs.clear()
        self.assertEqual(list(best.needs), [2, 0, 1])

    def test_iteration(self):
        one, other = Barred({0: ONE}), Enough((ZERO, ONE), {})
        best = Best(None, {1: one, 0: other})
        for _ in range(2):
            self.assertEqual(list(best), [(1, one), (0, other)])
        best.needs[2] = one
        self.assertEqual([work for work, need in best], [1, 0, 2])
        self.assertEqual(list(Best(None, {})), [])

    def test_equality(self):
        one, other = Barred({0: ONE}), Enough((ZERO, ONE), {})
        self.assertTrue(Best(1, {0: one, 1: other}) == Best(1, {1: Enough((ZERO, ONE), {}), 0: Barred({0: ONE})}))
        self.assertFalse(Best(1, {0: one}) != Best(1, {0: Barred({0: ONE})}))
        for wrong in (Best(0, {0: one}), Best(None, {0: one}), Best(1, {}), Best(1, {1: one}), Best(1, {0: other}),
                      Best(1, {0: Barred({1: ONE})}), Best(1, {0: one, 1: one})):
            self.assertTrue(Best(1, {0: one}) != wrong)
            self.assertFalse(Best(1, {0: one}) == wrong)

    def test_methods_stand_in_the_class(self):
        for name in ("__init__", "__iter__", "__eq__", "shows"):
            self.assertIn(name, vars(Best))


def changed_work(luck, job, work):
    return work if luck.random() < 0.6 else luck.choice([None, True, False, -1] + list(range(len(job) + 1)))


def changed_needs(luck, job, needs):
    """The needs in any order, or with one more, one less, or one that is changed."""
    items = [(work, copy.deepcopy(need)) for work, need in needs.items()]
    luck.shuffle(items)
    found = dict(items)
    choice = luck.randrange(9)
    work = luck.choice(list(found))
    if choice == 0:
        del found[work]
    elif choice == 1:
        found[luck.choice((-1, len(job)))] = found[work]
    elif choice == 2:
        found[work] = found[luck.choice(list(found))]
    elif choice == 3:
        found[work] = luck.choice((Barred({luck.randrange(len(job)): ONE}), Enough(model.some_pay(luck, job), {})))
    elif choice == 4 and work in (0, 1):
        found[bool(work)] = found.pop(work)
    elif choice > 5 and isinstance(found[work], Barred):
        found[work] = Barred(changed_dict(luck, job, found[work].mix, False))
    elif choice > 5:
        found[work] = Enough(changed_pay(luck, found[work].pay), changed_dict(luck, job, found[work].weights, True))
    return found


if __name__ == "__main__":
    unittest.main()
