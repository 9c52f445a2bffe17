import copy
import unittest
from fractions import Fraction
from random import Random

from outcomepay.errors import BadFired, BadJob, BadPatience, BadWork
from outcomepay.jobs import Job
from outcomepay.wages import NoWage, Wage, least_wage, rule, wage
from tests import model, model_wages
from tests.changes import changed_number
from tests.wrong import WRONG_NUMBERS, anything

ZERO = (0, 1)
ONE = (1, 1)
HALF = (1, 2)
JOB = Job((0, 4, 8), ((0, (2, 1, 1)), (2, (1, 2, 1))))
SHOP = Job((0, 12), ((0, (5, 1)), (1, (1, 1))))
# If dismissed after outcome 0 with a patience of 1/2, the drains are 1/2, 3/4 and 1.
STAIRS = Job((0, 0), ((2, (0, 1)), (4, (1, 1)), (3, (1, 0))))


def tries(seed, many, most=3):
    """Jobs with all works, each with some patiences and fired outcomes."""
    luck = Random(seed)
    for job in [JOB, SHOP, STAIRS] + model.some_jobs(seed, many):
        every = model_wages.all_fired(job)
        for work in range(len(job)):
            for fired in luck.sample(every, most):
                yield job, work, model_wages.some_patience(luck), fired


class Finding(unittest.TestCase):
    def test_as_the_values_tell(self):
        told = {"nothing": 0, "a work": 0, "none": 0}
        for job, work, patience, fired in tries(91, 300):
            least = model_wages.least(job, work, patience, fired)
            found = wage(job, work, patience, fired)
            self.assertIs(type(found), NoWage if least is None else Wage)
            self.assertEqual(least_wage(job, work, patience, fired), None if least is None else model.pair(least))
            if least is None:
                told["none"] += 1
                continue
            self.assertEqual(found.wage, model.pair(least))
            told["nothing" if found.why is None else "a work"] += 1
        self.assertGreater(min(told.values()), 50, told)

    def test_what_is_returned_is_shown(self):
        told = {"alike": 0, "two works": 0, "no work": 0, "wage": 0}
        for job, work, patience, fired in tries(92, 500):
            found = wage(job, work, patience, fired)
            self.assertIs(found.shows(job, work, patience, fired), True)
            self.assertTrue(model_wages.is_answer(job, work, patience, fired, found))
            if isinstance(found, Wage):
                told["wage"] += 1
            elif found.one is not None:
                told["two works"] += 1
            else:
                same = len({model_wages.drain(job, each, patience, fired) for each in (work, found.other)}) == 1
                told["alike" if same else "no work"] += 1
        self.assertGreater(min(told.values()), 10, told)

    def test_by_hand(self):
        self.assertEqual([least_wage(JOB, 1, HALF, fired) for fired in ((), (0,), (1,), (0, 2))],
                         [None, (12, 1), None, (14, 1)])
        self.assertEqual(wage(JOB, 1, HALF, (0,)), Wage((12, 1), 0))
        self.assertEqual(wage(JOB, 0, HALF, (0,)), Wage(ZERO, None))
        # Without a sale it is dismissed: 11/12 and 3/4 drain away, 11/2 has the value 6 with both.
        self.assertEqual(wage(SHOP, 1, HALF, (0,)), Wage((11, 2), 0))
        self.assertEqual(wage(SHOP, 0, HALF, (0,)), Wage(ZERO, None))
        # Whoever sells is dismissed: 7/12 and 3/4 drain away, -7/2 has the value -6 with both.
        self.assertEqual(wage(SHOP, 1, HALF, (1,)), NoWage(None, 0))
        self.assertEqual([wage(SHOP, 1, HALF, fired) for fired in ((), (0, 1))], [NoWage(None, 0)] * 2)

    def test_three_drains(self):
        # At 0, as much as the work 2; at 5, as much as no work; at 4, as much as the work 0.
        self.assertEqual([wage(STAIRS, work, HALF, (0,)) for work in range(3)],
                         [Wage((2, 1), None), NoWage(2, 0), NoWage(None, 0)])
        self.assertTrue(NoWage(None, 0).shows(STAIRS, 2, HALF, (0,)))
        # Turned round, the work 0 drains most, and any wage from 3 on will do for the work 2.
        self.assertEqual([wage(STAIRS, work, HALF, (1,)) for work in (0, 2)], [Wage((2, 1), None), Wage((4, 1), 0)])

    def test_no_patience(self):
        for job, work, patience, fired in tries(93, 100):
            least = min(effort for effort, parts in job.works)
            effort = job.works[work][0]
            found = wage(job, work, ZERO, fired)
            if effort == least:
                self.assertEqual(found, Wage((effort, 1), None))
            else:
                self.assertIsNone(found.one)
                self.assertLess(job.works[found.other][0], effort)

    def test_all_or_none_are_fired(self):
        for job, work, patience, fired in tries(94, 100, 1):
            least = min(effort for effort, parts in job.works)
            effort = job.works[work][0]
            for every in ((), tuple(range(len(job.worths)))):
                expected = (effort, 1) if effort == least else None
                self.assertEqual(least_wage(job, work, patience, every), expected)

    def test_works_with_the_same_drain(self):
        job = Job((0, 0, 0), ((3, (1, 1, 2)), (4, (2, 1, 1)), (3, (1, 2, 1)), (0, (0, 0, 1))))
        self.assertEqual(wage(job, 1, HALF, (1,)), wage(job, 1, HALF, (1,)))
        for fired in ((1,), (0, 2)):
            self.assertEqual([model_wages.drain(job, work, HALF, fired) for work in (0, 1)],
                             [Fraction(5, 8), Fraction(5, 8)] if fired == (1,) else [Fraction(7, 8), Fraction(7, 8)])
            self.assertIsNone(least_wage(job, 1, HALF, fired))
            self.assertTrue(NoWage(None, 0).shows(job, 1, HALF, fired))
        # The same effort is no reason.
        alike = Job((0, 0), ((3, (1, 1)), (3, (2, 2))))
        for work in (0, 1):
            self.assertEqual(wage(alike, work, HALF, (0,)), Wage((3, 1), None))
            self.assertFalse(NoWage(None, 1 - work).shows(alike, work, HALF, (0,)))

    def test_great_patience(self):
        patience = (99, 100)
        self.assertEqual(least_wage(SHOP, 1, patience, (0,)), model.pair(model_wages.least(SHOP, 1, patience, (0,))))
        # Drains of 1 - 99/600 and 1 - 99/200.
        self.assertEqual(least_wage(SHOP, 1, patience, (0,)), model.pair(Fraction(501, 600) / Fraction(198, 600)))
        self.assertEqual(least_wage(SHOP, 1, (1, 100), (0,)), model.pair(Fraction(599, 600) / Fraction(2, 600)))

    def test_new_each_time(self):
        found = wage(JOB, 1, HALF, (0,))
        found.wage = None
        self.assertEqual(wage(JOB, 1, HALF, (0,)), Wage((12, 1), 0))


class WageShows(unittest.TestCase):
    def no(self, found, why, job=JOB, work=1, patience=HALF, fired=(0,)):
        self.assertIs(Wage(found, why).shows(job, work, patience, fired), False, (found, why))

    def yes(self, found, why, job=JOB, work=1, patience=HALF, fired=(0,)):
        self.assertIs(Wage(found, why).shows(job, work, patience, fired), True, (found, why))

    def test_the_least_wage(self):
        self.yes((12, 1), 0)
        self.yes((14, 1), 0, fired=(0, 2))
        self.yes(ZERO, None, work=0)

    def test_changed_wages(self):
        for found in ((14, 1), (11, 1), (25, 2), (23, 2), (2, 1), (3, 1), ZERO, (-12, 1), (-1, 1), (12, 7)):
            for why in (0, None):
                self.no(found, why)
        for found in ((24, 2), (12, -1), (-12, -1)):
            self.no(found, 0)
        for found in (ONE, (-1, 1), (1, 100)):
            for why in (1, None):
                self.no(found, why, work=0)

    def test_changed_works(self):
        for why in (None, 1, 2, -1, -2, 10 ** 30, -10 ** 30):
            self.no((12, 1), why)
        for why in (0, 1, 2, -1):
            self.no(ZERO, why, work=0)
        for why in (False, True):
            self.no((12, 1), why)

    def test_a_work_with_a_lesser_drain_is_no_reason(self):
        # At 4 the works 0 and 2 have the same value: the work 0 drains more if dismissed after outcome 1.
        self.yes((4, 1), 0, STAIRS, 2, HALF, (1,))
        self.no((4, 1), 2, STAIRS, 0, HALF, (1,))
        self.no((4, 1), 1, STAIRS, 2, HALF, (1,))

    def test_nothing_and_a_work_may_both_be_the_reason(self):
        # With the same effort, both have the value 0 at this wage.
        job = Job((0, 0), ((3, (1, 1)), (3, (1, 3))))
        self.yes((3, 1), None, job)
        self.yes((3, 1), 0, job)
        self.yes((3, 1), None, job, 0)
        self.no((3, 1), 1, job, 0)
        self.assertIsNone(wage(job, 1, HALF, (0,)).why)

    def test_of_several_works_any_may_be_the_reason(self):
        job = Job((0, 0), ((0, (2, 1)), (2, (1, 2)), (0, (4, 2))))
        found = least_wage(job, 1, HALF, (0,))
        for why in (0, 2):
            self.yes(found, why, job)
        self.no(found, 1, job)
        self.no(found, None, job)

    def test_another_job_work_patience_or_fired(self):
        self.no((12, 1), 0, Job((0, 4, 8), ((0, (2, 1, 1)), (3, (1, 2, 1)))))
        self.yes((12, 1), 0, Job((0, 0, 0, 0), ((0, (2, 1, 1, 0)), (2, (1, 2, 1, 0)))))
        self.no((12, 1), 0, work=0)
        self.no((12, 1), 0, patience=ZERO)
        self.no((12, 1), 0, patience=(1, 3))
        for fired in ((), (1,), (2,), (0, 1), (0, 2), (0, 1, 2)):
            self.no((12, 1), 0, fired=fired)

    def test_current_attributes(self):
        found = wage(JOB, 1, HALF, (0,))
        found.why = None
        self.assertFalse(found.shows(JOB, 1, HALF, (0,)))
        found.why = 0
        self.assertTrue(found.shows(JOB, 1, HALF, (0,)))
        found.wage = (13, 1)
        self.assertFalse(found.shows(JOB, 1, HALF, (0,)))
        self.assertTrue(found == Wage((13, 1), 0))

    def test_changes_are_judged_as_the_document_tells(self):
        luck = Random(95)
        told = {True: 0, False: 0}
        for job, work, patience, fired in tries(96, 200):
            found = wage(job, work, patience, fired)
            if isinstance(found, NoWage):
                found = Wage((job.works[work][0], 1), found.one)
            for _ in range(3):
                least = luck.choice((found.wage, found.wage, changed_number(luck, found.wage), (luck.randint(-2, 9), 1)))
                changed = Wage(least, luck.choice((found.why, found.why, None, luck.randint(-1, len(job)))))
                other = fired if luck.random() < 0.9 else luck.choice(model_wages.all_fired(job))
                kept = copy.deepcopy(changed)
                expected = model_wages.is_wage(job, work, patience, other, changed.wage, changed.why)
                self.assertIs(changed.shows(job, work, patience, other), expected)
                self.assertEqual(changed, kept)
                told[expected] += 1
        self.assertGreater(min(told.values()), 100, told)


class NoWageShows(unittest.TestCase):
    def no(self, one, other, job=JOB, work=1, patience=HALF, fired=()):
        self.assertIs(NoWage(one, other).shows(job, work, patience, fired), False, (one, other))

    def yes(self, one, other, job=JOB, work=1, patience=HALF, fired=()):
        self.assertIs(NoWage(one, other).shows(job, work, patience, fired), True, (one, other))

    def test_the_same_drain(self):
        self.yes(None, 0)
        self.yes(None, 0, fired=(0, 1, 2))
        self.yes(None, 0, patience=ZERO, fired=(0,))
        self.no(None, 1, work=0)
        # With the same drain, one is None: no other work is.
        job = Job((0, 0), ((0, (1, 1)), (2, (1, 1)), (0, (1, 0)), (0, (0, 1))))
        self.yes(None, 0, job, fired=(0,))
        for one in (0, 1, 2, 3):
            self.no(one, 0, job, fired=(0,))

    def test_a_lesser_drain(self):
        self.yes(None, 0, fired=(1,))
        self.no(0, 0, fired=(1,))
        self.no(1, 0, fired=(1,))
        self.no(0, None, fired=(1,))
        self.yes(2, 0, STAIRS, 1, HALF, (0,))
        self.no(0, 2, STAIRS, 1, HALF, (0,))
        self.no(None, 2, STAIRS, 1, HALF, (0,))
        self.no(2, 2, STAIRS, 1, HALF, (0,))
        self.no(0, 0, STAIRS, 1, HALF, (0,))
        self.no(1, 0, STAIRS, 1, HALF, (0,))
        self.no(2, 1, STAIRS, 1, HALF, (0,))

    def test_at_the_same_wage_nothing_is_barred(self):
        # Both wages, of no work and of the other one, are 3: at 3 the work is as good as both.
        job = Job((0, 0), ((3, (1, 1)), (3, (1, 3))))
        self.no(None, 1, job, 0, HALF, (0,))
        self.no(None, 0, job, 1, HALF, (1,))
        self.assertEqual(least_wage(job, 0, HALF, (0,)), (3, 1))
        # Drains of 1/2, 3/4 and 1, efforts in equal steps: all three are as good at the same wage.
        even = Job((0, 0), ((3, (0, 1)), (2, (1, 1)), (1, (1, 0))))
        self.assertEqual(least_wage(even, 1, HALF, (0,)), (5, 1))
        self.no(2, 0, even, 1, HALF, (0,))
        self.yes(2, 0, Job((0, 0), ((2, (0, 1)), (2, (1, 1)), (1, (1, 0)))), 1, HALF, (0,))

    def test_works_that_are_none(self):
        for other in (1, 2, -1, -2, 10 ** 30, -10 ** 30, None, True, False):
            self.no(None, other)
        for one in (0, 1, 2, -1, -2, 10 ** 30, True, False):
            self.no(one, 0)
            self.no(one, 0, fired=(1,))
        for wrong in (3, -1, -2, -3, 10 ** 30, True, False):
            self.no(wrong, 0, STAIRS, 1, HALF, (0,))
            self.no(2, wrong, STAIRS, 1, HALF, (0,))

    def test_another_job_work_patience_or_fired(self):
        for fired in ((0,), (0, 2)):
            self.no(None, 0, fired=fired)
        self.no(None, 0, job=Job((0, 4, 8), ((2, (2, 1, 1)), (2, (1, 2, 1)))))
        self.no(None, 0, work=0)
        self.yes(2, 0, STAIRS, 1, (1, 3), (0,))
        self.no(2, 0, STAIRS, 1, ZERO, (0,))

    def test_current_attributes(self):
        found = NoWage(None, 0)
        found.one = 0
        self.assertFalse(found.shows(JOB, 1, HALF, ()))
        found.one = None
        found.other = 1
        self.assertFalse(found.shows(JOB, 1, HALF, ()))
        found.other = 0
        self.assertTrue(found.shows(JOB, 1, HALF, ()))

    def test_changes_are_judged_as_the_document_tells(self):
        luck = Random(97)
        told = {True: 0, False: 0, "two works": 0}
        for job, work, patience, fired in tries(98, 300):
            found = wage(job, work, patience, fired)
            held = (found.one, found.other) if isinstance(found, NoWage) else (None, 0)
            for _ in range(4):
                one, other = (luck.choice((each, None, luck.randint(-1, len(job)))) for each in held)
                changed = NoWage(one, other)
                expected = model_wages.is_no_wage(job, work, patience, fired, changed.one, changed.other)
                self.assertIs(changed.shows(job, work, patience, fired), expected, (one, changed.other))
                told[expected] += 1
                told["two works"] += expected and one is not None
        self.assertGreater(min(told.values()), 30, told)


class Objects(unittest.TestCase):
    def test_attributes(self):
        found, none = Wage(wage=HALF, why=3), NoWage(one=None, other=2)
        self.assertEqual([found.wage, found.why, none.one, none.other], [HALF, 3, None, 2])

    def test_equality(self):
        self.assertTrue(Wage(HALF, 0) == Wage((1, 2), 0))
        self.assertFalse(Wage(HALF, 0) != Wage((1, 2), 0))
        for other in (Wage(ONE, 0), Wage(HALF, 1), Wage(HALF, None), NoWage(HALF, 0)):
            self.assertTrue(Wage(HALF, 0) != other)
            self.assertFalse(Wage(HALF, 0) == other)
        self.assertTrue(NoWage(None, 0) == NoWage(None, 0))
        self.assertFalse(NoWage(None, 0) != NoWage(None, 0))
        for other in (NoWage(0, None), NoWage(None, 1), NoWage(0, 0), Wage(None, 0)):
            self.assertTrue(NoWage(None, 0) != other)
            self.assertFalse(NoWage(None, 0) == other)

    def test_methods_stand_in_the_classes(self):
        for made in (Wage, NoWage):
            for name in ("__init__", "__eq__", "shows"):
                self.assertIn(name, vars(made))


WRONG_PATIENCES = [
    ONE, (2, 1), (-1, 2), (-1, 100), (1, 101), (100, 101), (0, 2), (0, 101), (2, 4), (50, 100), (101, 100), (1, 0),
    (0, 0), (0, -1), (1, -2), (-1, -2), [1, 2], [0, 1], (True, 2), (1, True), (False, 1), (0, True), (False, True),
    (0,), (1,), (1, 2, 3), (0, 1, 0), ("1", "2"), (1, None), (None, 2), (10 ** 40, 10 ** 40 + 1), (1, 10 ** 40), 0,
    ((1, 2), (1, 2)), ((1,), 2), {1: 2}, "12", b"\x01\x02", Fraction(1, 2),
]


def wrong_patiences():
    return [thing for thing in anything() if thing != (0, 1)] + WRONG_PATIENCES


def wrong_fired(many):
    """Fired outcomes that are none, for a job with so many outcomes, two to four."""
    every = tuple(range(many))
    good = [(), (0,), (0, 1), (1, 2, 3)] if many == 4 else [(), (0,), (0, 1)]
    found = [thing for thing in anything() if thing not in good]
    found += [list(every), [0], [], every[::-1], (1, 0), (0, 0), (1, 1), every + every[-1:], every + (many,), (many,),
              (-1,), (-1,) + every, (0, -1), (0, many), (10 ** 40,), (-10 ** 40,), (0, None), ((0,),), ("0",), "01",
              (0, "1"), every + (None,), range(many), iter(every), {0: 1}, b"\x00\x01", (0, (1,))]
    found += [(number,) for number in WRONG_NUMBERS if number != 1] + [(0, number) for number in WRONG_NUMBERS]
    return found


class Refusing(unittest.TestCase):
    CALLS = (wage, least_wage, Wage((12, 1), 0).shows, Wage(ZERO, None).shows, NoWage(None, 0).shows, NoWage(1, 1).shows)

    def check(self, error, call, *arguments):
        with self.assertRaises(error, msg=arguments) as caught:
            call(*arguments)
        self.assertIs(type(caught.exception), error)
        if error is BadJob:
            self.assertIsNone(caught.exception.part)

    def test_wrong_jobs(self):
        for call in self.CALLS:
            for job in anything() + [HALF, wage(JOB, 1, HALF, (0,)), rule(JOB, 1, HALF)]:
                self.check(BadJob, call, job, 1, HALF, (0,))

    def test_wrong_works(self):
        for call in self.CALLS:
            for work in anything() + [2, 3, -2, [1], "1"]:
                self.check(BadWork, call, JOB, work, HALF, (0,))

    def test_wrong_patiences(self):
        for call in self.CALLS:
            for patience in wrong_patiences():
                self.check(BadPatience, call, JOB, 1, patience, (0,))

    def test_patiences_at_the_limits(self):
        for patience in (ZERO, (1, 100), (99, 100), (98, 99), HALF, (1, 3)):
            self.assertTrue(wage(JOB, 1, patience, (0,)).shows(JOB, 1, patience, (0,)))

    def test_wrong_fired_outcomes(self):
        for job in (SHOP, JOB, Job((0,) * 4, ((0, (1, 0, 0, 0)), (1, (0, 1, 0, 0))))):
            for call in self.CALLS:
                for fired in wrong_fired(len(job.worths)):
                    self.check(BadFired, call, job, 1, HALF, fired)
            for fired in model_wages.all_fired(job):
                self.assertTrue(wage(job, 1, HALF, fired).shows(job, 1, HALF, fired))

    def test_the_first_error_is_raised(self):
        for call in self.CALLS:
            for fired in ((0,), None, [0], (1, 0), (3,), (False,)):
                for patience in (HALF, None, ONE, (2, 4), [1, 2]):
                    for work in (0, True, -1, None):
                        for job in (None, True, (JOB.worths, JOB.works)):
                            self.check(BadJob, call, job, work, patience, fired)
                    for work in (True, False, -1, 2, None, "0", (0,)):
                        self.check(BadWork, call, JOB, work, patience, fired)
                for patience in (None, ONE, (2, 4), [1, 2], (-1, 2), (1, 101)):
                    self.check(BadPatience, call, JOB, 1, patience, fired)

    def test_refused_calls_change_nothing(self):
        found = Wage((12, 1), 0)
        patience, fired = [1, 2], [0]
        self.check(BadPatience, found.shows, JOB, 1, patience, fired)
        self.check(BadFired, found.shows, JOB, 1, HALF, fired)
        self.assertEqual([found, patience, fired], [Wage((12, 1), 0), [1, 2], [0]])


if __name__ == "__main__":
    unittest.main()
