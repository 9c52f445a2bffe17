import copy
import unittest
from random import Random

from outcomepay.errors import BadJob, BadWork
from outcomepay.jobs import Job
from outcomepay.pays import Barred, Enough, least_pay, pay_cost
from tests import model
from tests.changes import changed_dict, changed_pay
from tests.wrong import anything

JOB = Job((0, 10), ((0, (3, 1)), (2, (1, 1)), (5, (1, 3))))
MIXED = Job((0, 5, 9), ((3, (1, 2, 1)), (1, (1, 1, 0)), (2, (0, 1, 1))))
PAY = ((0, 1), (12, 1))
HALVES = {1: (1, 2), 2: (1, 2)}
ZERO = (0, 1)
ONE = (1, 1)
EDGES = [
    Job((0, 0), ((0, (1, 0)), (0, (1, 0)))),
    Job((0, 0), ((0, (1, 0)), (9, (1, 0)))),
    Job((0, 0), ((9, (1, 1)), (9, (1, 1)), (9, (1, 1)), (9, (1, 1)))),
    Job((0, 0), ((9, (2, 2)), (3, (1, 1)))),
    Job((0, 0, 0), ((9, (0, 1, 0)), (0, (1, 0, 1)))),
    Job((0, 0, 0), ((4, (0, 1, 1)), (1, (0, 1, 0)), (1, (0, 0, 1)), (0, (6, 0, 0)))),
    Job((0, 0, 0, 0), ((0, (0, 0, 0, 1)), (0, (1, 0, 0, 0)), (9, (1, 0, 0, 1)), (5, (1, 1, 1, 1)))),
    Job((0, 0, 0, 0), ((9, (6, 5, 4, 3)), (8, (3, 4, 5, 6)), (7, (1, 6, 1, 6)), (6, (6, 1, 6, 1)))),
    JOB, MIXED,
]


def tries(seed, many):
    """All jobs of the edges and some others, with all works, and with pays and rising pays."""
    for job in EDGES + model.some_jobs(seed, many):
        for work in range(len(job)):
            for rising in (False, True):
                yield job, work, rising


class Least(unittest.TestCase):
    def test_as_the_corners_tell(self):
        answers = {(Enough, False): 0, (Enough, True): 0, (Barred, False): 0, (Barred, True): 0}
        for job, work, rising in tries(2, 130):
            cost = model.least_average(job, work, rising)
            found = least_pay(job, work, rising=rising)
            self.assertIs(type(found), Barred if cost is None else Enough)
            self.assertEqual(pay_cost(job, work, rising=rising), None if cost is None else model.pair(cost))
            if cost is not None:
                self.assertEqual(model.average(job, work, found.pay), cost)
            answers[(type(found), rising)] += 1
        self.assertGreater(min(answers.values()), 20, answers)

    def test_what_is_returned_is_shown(self):
        for job, work, rising in tries(3, 400):
            found = least_pay(job, work, rising=rising)
            self.assertIs(found.shows(job, work, rising=rising), True)
            if isinstance(found, Enough):
                self.assertTrue(model.is_enough(job, work, rising, found.pay, found.weights))
                self.assertTrue(all(type(amount) is tuple for amount in found.pay))
            else:
                self.assertTrue(model.is_barred(job, work, rising, found.mix))

    def test_rising_is_off_unless_it_is_asked_for(self):
        job = Job((0, 0, 0), ((0, (2, 1, 1)), (2, (1, 2, 1))))
        self.assertEqual(least_pay(job, 1), least_pay(job, 1, rising=False))
        self.assertEqual([pay_cost(job, 1), pay_cost(job, 1, rising=True)], [(4, 1), (6, 1)])
        with self.assertRaises(TypeError):
            least_pay(job, 1, True)
        with self.assertRaises(TypeError):
            pay_cost(job, 1, True)

    def test_efforts_of_zero(self):
        job = Job((0, 1), ((0, (1, 1)), (0, (1, 2)), (0, (1, 1))))
        for work in range(3):
            for rising in (False, True):
                self.assertEqual(pay_cost(job, work, rising=rising), ZERO)

    def test_works_with_the_same_parts(self):
        job = Job((0, 1), ((3, (1, 1)), (2, (2, 2)), (2, (3, 3))))
        for rising in (False, True):
            self.assertEqual([pay_cost(job, work, rising=rising) for work in range(3)], [None, (2, 1), (2, 1)])
            self.assertTrue(Barred({1: ONE}).shows(job, 0, rising=rising))

    def test_outcomes_that_the_work_never_brings(self):
        job = Job((0, 0, 0), ((4, (0, 1, 0)), (0, (1, 0, 1))))
        self.assertEqual(least_pay(job, 0).pay[1], (4, 1))
        self.assertEqual([pay_cost(job, 0), pay_cost(job, 0, rising=True)], [(4, 1), (8, 1)])

    def test_new_each_time(self):
        first = least_pay(JOB, 2)
        first.weights.clear()
        first.pay = None
        self.assertTrue(least_pay(JOB, 2).shows(JOB, 2))
        barred = least_pay(MIXED, 0)
        barred.mix[1] = ONE
        self.assertTrue(least_pay(MIXED, 0).shows(MIXED, 0))

    def test_wrong_arguments(self):
        works = anything() + [3, 4]
        calls = [least_pay, pay_cost, Enough(PAY, {1: (3, 1)}).shows, Barred(HALVES).shows, Enough((), {}).shows,
                 Barred({}).shows]
        for call in calls:
            for more in ({}, {"rising": False}, {"rising": True}):
                for job in anything() + [PAY]:
                    for work in (0, True, -1, None):
                        with self.assertRaises(BadJob) as caught:
                            call(job, work, **more)
                        self.assertIsNone(caught.exception.part)
                for work in works:
                    with self.assertRaises(BadWork):
                        call(JOB, work, **more)


class Objects(unittest.TestCase):
    def test_attributes_and_copies(self):
        weights = {2: ZERO, None: ONE, 0: (1, 2)}
        enough = Enough(PAY, weights)
        self.assertEqual([enough.pay, enough.weights, list(enough.weights)], [PAY, weights, [2, None, 0]])
        enough.weights[1] = ONE
        self.assertEqual(weights, {2: ZERO, None: ONE, 0: (1, 2)})
        weights.clear()
        self.assertEqual(len(enough.weights), 4)
        mix = {2: (1, 2), 1: (1, 2)}
        barred = Barred(mix=mix)
        mix.clear()
        self.assertEqual(list(barred.mix.items()), [(2, (1, 2)), (1, (1, 2))])
        self.assertEqual(Enough(pay=PAY, weights={}), Enough(PAY, {}))

    def test_iteration(self):
        barred = Barred({2: (1, 3), 0: (2, 3)})
        for _ in range(2):
            self.assertEqual(list(barred), [(2, (1, 3)), (0, (2, 3))])
        barred.mix[1] = ZERO
        self.assertEqual([work for work, part in barred], [2, 0, 1])
        self.assertEqual(list(Barred({})), [])

    def test_equality(self):
        self.assertTrue(Enough(PAY, {0: ONE, 1: ZERO}) == Enough(PAY, {1: ZERO, 0: ONE}))
        self.assertFalse(Enough(PAY, {0: ONE}) != Enough(PAY, {0: ONE}))
        for other in (Enough(PAY[::-1], {0: ONE}), Enough(PAY, {}), Enough(PAY, {0: ZERO}), Enough(PAY, {1: ONE})):
            self.assertTrue(Enough(PAY, {0: ONE}) != other)
            self.assertFalse(Enough(PAY, {0: ONE}) == other)
        self.assertTrue(Barred({0: ONE, 1: ZERO}) == Barred({1: ZERO, 0: ONE}))
        self.assertTrue(Barred({0: ONE}) != Barred({1: ONE}))
        self.assertFalse(Barred({0: ONE}) == Barred({0: ONE, 1: ZERO}))

    def test_objects_of_different_classes(self):
        things = [JOB, Enough((), {}), Barred({})]
        for k, one in enumerate(things):
            for j, other in enumerate(things):
                self.assertIs(one == other, k == j)
                self.assertIs(one != other, k != j)

    def test_methods_stand_in_the_classes(self):
        for name in ("__init__", "__eq__", "shows"):
            self.assertIn(name, vars(Enough))
            self.assertIn(name, vars(Barred))
        self.assertIn("__iter__", vars(Barred))


class EnoughShows(unittest.TestCase):
    def no(self, pay, weights, job=JOB, work=2, **more):
        self.assertIs(Enough(pay, weights).shows(job, work, **more), False, (pay, weights))

    def yes(self, pay, weights, job=JOB, work=2, **more):
        self.assertIs(Enough(pay, weights).shows(job, work, **more), True, (pay, weights))

    def test_the_least_pay(self):
        self.yes(PAY, {1: (3, 1)})
        self.yes(PAY, {1: (3, 1)}, rising=True)
        self.yes(PAY, {None: ZERO, 1: (3, 1), 0: ZERO})
        self.yes(PAY, {0: ZERO, 1: (3, 1), None: ZERO})

    def test_a_pay_that_does_not_bring_the_work_about(self):
        self.no(((9, 1), (9, 1)), {1: (3, 1)})
        self.no(((0, 1), (0, 1)), {}, work=1)
        self.yes(((0, 1), (0, 1)), {}, work=0)

    def test_a_pay_below_zero(self):
        self.no(((-3, 1), (13, 1)), {1: (3, 1)})

    def test_a_pay_with_no_gain(self):
        job = Job((0, 0), ((3, (1, 0)), (3, (1, 0))))
        self.yes(((3, 1), ZERO), {None: ONE}, job, 0)
        self.no(((2, 1), ZERO), {None: (2, 3)}, job, 0)

    def test_a_pay_that_is_not_least(self):
        self.no(((0, 1), (13, 1)), {1: (3, 1)})
        self.no(((3, 1), (15, 1)), {1: (4, 1)})
        self.no(((1, 1), (13, 1)), {0: (-1, 1), 1: (5, 1)})

    def test_weights_that_do_not_reach_the_average(self):
        self.no(PAY, {1: (2, 1)})
        self.no(PAY, {})
        self.no(PAY, {0: (9, 5)})

    def test_keys_that_are_no_other_choices(self):
        for other in (2, 3, -1, -2, 10 ** 30, -10 ** 30):
            self.no(PAY, {1: (3, 1), other: ZERO})
        for other in (-2, True):
            self.no(PAY, {other: (3, 1)})

    def test_a_pay_of_another_length(self):
        for pay in ((), PAY[:1], PAY[1:], PAY + (ZERO,), PAY + PAY):
            self.no(pay, {1: (3, 1)})

    def test_a_pay_that_is_not_rising(self):
        job = Job((0, 0, 0), ((0, (2, 1, 1)), (2, (1, 2, 1))))
        self.yes((ZERO, (8, 1), ZERO), {0: (2, 1)}, job, 1)
        self.no((ZERO, (8, 1), ZERO), {0: (2, 1)}, job, 1, rising=True)
        self.no((ZERO, (8, 1), (8, 1)), {0: (2, 1)}, job, 1)
        self.yes((ZERO, (8, 1), (8, 1)), {0: (3, 1)}, job, 1, rising=True)
        self.no((ZERO, (8, 1), (8, 1)), {0: (3, 1)}, job, 1)

    def test_current_attributes(self):
        enough = Enough(PAY, {1: (3, 1)})
        enough.weights[1] = (2, 1)
        self.assertFalse(enough.shows(JOB, 2))
        enough.weights = {1: (3, 1)}
        self.assertTrue(enough.shows(JOB, 2))
        enough.pay = ((9, 1), (9, 1))
        self.assertFalse(enough.shows(JOB, 2))

    def test_nothing_is_changed(self):
        enough = Enough(PAY, {1: (3, 1), None: ZERO})
        kept = copy.deepcopy(enough)
        enough.shows(JOB, 2)
        enough.shows(MIXED, 0, rising=True)
        self.assertEqual(enough, kept)
        self.assertEqual(list(enough.weights), [1, None])

    def test_changes_are_judged_as_the_document_tells(self):
        luck = Random(4)
        told = {True: 0, False: 0}
        for job, work, rising in tries(5, 250):
            found = least_pay(job, work, rising=rising)
            if isinstance(found, Barred):
                found = Enough(model.some_pay(luck, job), {None: ONE})
            for _ in range(4):
                changed = Enough(changed_pay(luck, found.pay), changed_dict(luck, job, found.weights, True))
                expected = model.is_enough(job, work, rising, changed.pay, changed.weights)
                self.assertIs(changed.shows(job, work, rising=rising), expected)
                told[expected] += 1
        self.assertGreater(min(told.values()), 100, told)


class BarredShows(unittest.TestCase):
    def no(self, mix, job=MIXED, work=0, **more):
        self.assertIs(Barred(mix).shows(job, work, **more), False, mix)

    def yes(self, mix, job=MIXED, work=0, **more):
        self.assertIs(Barred(mix).shows(job, work, **more), True, mix)

    def test_a_mix_that_bars(self):
        self.yes(HALVES)
        self.yes({2: (1, 2), 1: (1, 2)})
        self.yes(HALVES, rising=True)
        self.yes({2: ONE}, rising=True)
        self.yes({1: ZERO, 2: ONE}, rising=True)

    def test_a_mix_that_is_not_one_together(self):
        self.no({})
        self.no({1: (1, 2), 2: (3, 4)})
        self.no({1: (1, 2), 2: (1, 4)})
        self.no({1: ONE, 2: ONE})
        self.no({2: (5, 4)}, rising=True)

    def test_a_mix_below_zero(self):
        job = Job((0, 0), ((5, (1, 1)), (1, (1, 1)), (0, (1, 1))))
        self.yes({1: (1, 2), 2: (1, 2)}, job)
        self.no({1: (3, 2), 2: (-1, 2)}, job)

    def test_a_mix_with_too_small_chances(self):
        self.no({2: ONE})
        self.no({1: ONE})
        self.no({1: ONE}, rising=True)
        self.no({1: (1, 3), 2: (2, 3)})

    def test_a_mix_with_too_much_effort(self):
        for effort, shown in ((4, True), (3, False), (2, False)):
            job = Job((0, 0), ((effort, (1, 1)), (3, (2, 2))))
            self.assertIs(Barred({1: ONE}).shows(job, 0), shown)

    def test_keys_that_are_no_other_works(self):
        for other in (0, 3, -1, -3, 10 ** 30, -10 ** 30):
            self.no({1: (1, 2), 2: (1, 2), other: ZERO})
        self.no({0: (1, 2), 1: (1, 4), 2: (1, 4)})
        self.no({1: (1, 2), -1: (1, 2)})
        self.no({True: (1, 2), 2: (1, 2)})
        self.no({None: ZERO, 1: (1, 2), 2: (1, 2)})

    def test_current_attributes(self):
        barred = Barred(HALVES)
        barred.mix[1] = ONE
        self.assertFalse(barred.shows(MIXED, 0))
        barred.mix = dict(HALVES)
        self.assertTrue(barred.shows(MIXED, 0))

    def test_changes_are_judged_as_the_document_tells(self):
        luck = Random(6)
        told = {True: 0, False: 0}
        for job, work, rising in tries(7, 250):
            found = least_pay(job, work, rising=rising)
            mix = found.mix if isinstance(found, Barred) else {luck.randrange(len(job)): ONE}
            for _ in range(4):
                changed = Barred(changed_dict(luck, job, mix, False))
                expected = model.is_barred(job, work, rising, changed.mix)
                self.assertIs(changed.shows(job, work, rising=rising), expected)
                told[expected] += 1
        self.assertGreater(min(told.values()), 100, told)


if __name__ == "__main__":
    unittest.main()
