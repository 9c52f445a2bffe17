import copy
import unittest
from fractions import Fraction
from random import Random

from outcomepay.errors import BadJob, BadPay, BadWork
from outcomepay.jobs import Job, gain, profit, wanted
from tests import model
from tests.wrong import WRONG_NUMBERS, anything

WORTHS = (0, 10)
WORKS = ((0, (3, 1)), (2, (1, 1)), (5, (1, 3)))
JOB = Job(WORTHS, WORKS)
PAY = ((0, 1), (12, 1))

WRONG_WORKS = anything() + [3, 4, -3, [1], "2"]

WRONG_FRACTIONS = [
    (-1, 1), (-1, 2), (2, 2), (0, 2), (6, 4), (10 ** 60, 10 ** 59), (1, 0), (0, 0), (1, -1), (0, -1), (-1, -1),
    (True, 1), (1, True), (False, 1), (1,), (1, 1, 1), (), [1, 1], "11", 1, 0, None, True, {1: 1}, ("1", 1), (1, None),
    ((1, 1), 1), (1, "1"),
]


def wrong_pays(many):
    """Pays that are none, for a job with so many outcomes."""
    good = [(1, 1)] * many
    found = [thing for thing in anything() if not (isinstance(thing, tuple) and len(thing) == many)]
    found += [list(good), tuple(good[1:]), tuple(good + [(1, 1)]), (1,) * many, dict(enumerate(good)), tuple(good[0])]
    for wrong in WRONG_FRACTIONS:
        for at in (0, many - 1):
            found.append(tuple(good[:at] + [wrong] + good[at + 1:]))
    return found


class Making(unittest.TestCase):
    def refuse(self, part, worths, works):
        with self.assertRaises(BadJob) as caught:
            Job(worths, works)
        self.assertEqual(caught.exception.part, part, (worths, works))

    def test_parameters(self):
        job = Job(worths=WORTHS, works=WORKS)
        self.assertEqual([job.worths, job.works, len(job)], [WORTHS, WORKS, 3])
        self.assertEqual(job, JOB)

    def test_limits_are_allowed(self):
        largest = Job((0, 20, 20, 0), ((0, (6, 6, 6, 6)), (9, (0, 0, 0, 1)), (9, (6, 0, 0, 0)), (0, (0, 1, 0, 0))))
        self.assertEqual([len(largest), len(largest.worths)], [4, 4])
        smallest = Job((0, 0), ((0, (1, 0)), (0, (1, 0))))
        self.assertEqual([len(smallest), smallest.worths], [2, (0, 0)])

    def test_worths_of_another_kind(self):
        for worths in anything():
            if worths not in ((0, 1), (1, 2, 3)):
                self.refuse("WORTHS", worths, WORKS)

    def test_worths_out_of_limits(self):
        for worths in ((-1, 0), (0, -1), (21, 0), (0, 21), (0, 10 ** 40), (0,), (0, 1, 2, 3, 4), (), [0, 10]):
            self.refuse("WORTHS", worths, WORKS)
        for wrong in WRONG_NUMBERS:
            self.refuse("WORTHS", (wrong, 0), WORKS)
            self.refuse("WORTHS", (0, wrong), WORKS)

    def test_works_of_another_kind(self):
        for works in anything():
            self.refuse("WORKS", WORTHS, works)
        self.refuse("WORKS", WORTHS, list(WORKS))

    def test_number_of_works(self):
        for many in (0, 1, 5, 6):
            self.refuse("WORKS", WORTHS, ((0, (1, 1)),) * many)
        for many in (2, 3, 4):
            self.assertEqual(len(Job(WORTHS, ((0, (1, 1)),) * many)), many)

    def test_wrong_efforts(self):
        for effort in WRONG_NUMBERS + (-1, 10, 10 ** 40):
            self.refuse("WORKS", WORTHS, ((effort, (1, 1)), (0, (1, 1))))
            self.refuse("WORKS", WORTHS, ((0, (1, 1)), (effort, (1, 1))))

    def test_wrong_parts(self):
        for parts in ((0, 0), (-1, 2), (2, -1), (7, 0), (0, 7), (1,), (1, 1, 1), (), [1, 1], None, "11", {0: 1, 1: 1}):
            self.refuse("WORKS", WORTHS, ((0, (1, 1)), (0, parts)))
            self.refuse("WORKS", WORTHS, ((0, parts), (0, (1, 1))))
        for wrong in WRONG_NUMBERS:
            self.refuse("WORKS", WORTHS, ((0, (1, 1)), (0, (1, wrong))))
            self.refuse("WORKS", WORTHS, ((0, (1, 1)), (0, (wrong, 1))))

    def test_parts_are_as_many_as_worths(self):
        self.refuse("WORKS", (0, 1, 2), WORKS)
        self.refuse("WORKS", (0, 1, 2), ((0, (1, 1, 1)), (0, (1, 1))))

    def test_wrong_pairs(self):
        for work in ([0, (1, 1)], (0,), (0, (1, 1), 1), ((1, 1), 0), None, 0, (), "01"):
            self.refuse("WORKS", WORTHS, ((0, (1, 1)), work))

    def test_both_wrong_names_the_first(self):
        for worths in (None, [0, 1], (True, 1), (21, 0), (0,), (0, 1, 2, 3, 4)):
            for works in (None, list(WORKS), (), ((10, (1, 1)), (0, (1, 1)))):
                self.refuse("WORTHS", worths, works)

    def test_too_many_outcomes_everywhere(self):
        self.refuse("WORTHS", (0,) * 5, ((0, (1,) * 5), (0, (1,) * 5)))
        self.refuse("WORTHS", (0,), ((0, (1,)), (0, (1,))))


class Keeping(unittest.TestCase):
    def test_equal_jobs(self):
        self.assertTrue(JOB == Job((0, 10), ((0, (3, 1)), (2, (1, 1)), (5, (1, 3)))))
        self.assertFalse(JOB != Job(WORTHS, WORKS))

    def test_unequal_jobs(self):
        for other in (Job((0, 11), WORKS), Job(WORTHS, WORKS[:2]), Job(WORTHS, WORKS[::-1]),
                      Job(WORTHS, WORKS[:2] + ((5, (2, 6)),)), Job(WORTHS, WORKS[:2] + ((4, (1, 3)),))):
            self.assertTrue(JOB != other)
            self.assertFalse(JOB == other)

    def test_jobs_never_change(self):
        job = Job(WORTHS, WORKS)
        for name in ("worths", "works"):
            with self.assertRaises(AttributeError):
                setattr(job, name, ((0, (1, 1)),) * 2)
        self.assertEqual([job.worths, job.works], [WORTHS, WORKS])
        wanted(job, PAY)
        gain(job, 1, PAY)
        self.assertEqual(job, Job(WORTHS, WORKS))

    def test_kinds_of_the_properties(self):
        self.assertIs(type(JOB.worths), tuple)
        self.assertIs(type(JOB.works), tuple)
        self.assertTrue(all(type(work) is tuple and type(work[1]) is tuple for work in JOB.works))

    def test_methods_stand_in_the_class(self):
        for name in ("__init__", "__len__", "__eq__", "worths", "works"):
            self.assertIn(name, vars(Job))


class Gains(unittest.TestCase):
    def test_as_computed_in_another_way(self):
        luck = Random(1)
        for job in model.some_jobs(11, 300):
            pay = model.some_pay(luck, job)
            kept = copy.deepcopy(pay)
            gains = []
            for work in range(len(job)):
                paid = model.average(job, work, pay)
                gains.append(paid - job.works[work][0])
                worth = sum(chance * each for chance, each in zip(model.chances(job, work), job.worths))
                self.assertEqual(gain(job, work, pay), model.pair(gains[-1]))
                self.assertEqual(profit(job, work, pay), model.pair(worth - paid))
            best = max([Fraction(0)] + gains)
            expected = ([None] if best == 0 else []) + [work for work in range(len(job)) if gains[work] == best]
            self.assertEqual(wanted(job, pay), expected)
            self.assertEqual(pay, kept)

    def test_two_three_and_four_outcomes(self):
        three = Job((0, 4, 8), ((0, (2, 1, 1)), (2, (1, 2, 1))))
        pay = ((1, 2), (8, 1), (0, 1))
        self.assertEqual([gain(three, 0, pay), gain(three, 1, pay)], [(9, 4), (17, 8)])
        self.assertEqual([profit(three, 0, pay), profit(three, 1, pay)], [(3, 4), (-1, 8)])
        self.assertEqual(wanted(three, pay), [0])
        four = Job((1, 2, 3, 20), ((9, (1, 1, 1, 1)), (0, (0, 0, 0, 6))))
        pay = ((1, 3), (0, 1), (0, 1), (1, 7))
        self.assertEqual([gain(four, 0, pay), gain(four, 1, pay)], [(-373, 42), (1, 7)])
        self.assertEqual([profit(four, 0, pay), profit(four, 1, pay)], [(134, 21), (139, 7)])

    def test_ties(self):
        tied = Job((0, 1), ((1, (0, 1)), (1, (0, 1)), (0, (1, 0))))
        self.assertEqual(wanted(tied, ((0, 1), (1, 1))), [None, 0, 1, 2])
        self.assertEqual(wanted(tied, ((1, 1), (2, 1))), [0, 1, 2])
        self.assertEqual(wanted(tied, ((0, 1), (2, 1))), [0, 1])
        self.assertEqual(wanted(tied, ((0, 1), (0, 1))), [None, 2])
        lazy = Job((0, 1), ((1, (0, 1)), (2, (1, 1))))
        self.assertEqual(wanted(lazy, ((0, 1), (0, 1))), [None])
        self.assertEqual(wanted(lazy, ((0, 1), (1, 1))), [None, 0])

    def test_long_numbers(self):
        long = 10 ** 3999 + 1
        pay = ((1, long), (long, 2))
        paid = (Fraction(1, long) * 3 + Fraction(long, 2)) / 4
        self.assertEqual(gain(JOB, 0, pay), model.pair(paid))
        self.assertEqual(wanted(JOB, pay), [2])

    def test_lists_are_new(self):
        first = wanted(JOB, PAY)
        first.append(7)
        self.assertEqual(wanted(JOB, PAY), [1, 2])


class Refusing(unittest.TestCase):
    def check(self, error, call, *arguments):
        with self.assertRaises(error, msg=arguments) as caught:
            call(*arguments)
        if error is BadJob:
            self.assertIsNone(caught.exception.part)

    def test_wrong_jobs(self):
        for call in (gain, profit):
            for job in anything():
                self.check(BadJob, call, job, 0, PAY)
        for job in anything() + [(WORTHS, WORKS)]:
            self.check(BadJob, wanted, job, PAY)

    def test_wrong_works(self):
        for call in (gain, profit):
            for work in WRONG_WORKS:
                self.check(BadWork, call, JOB, work, PAY)

    def test_wrong_pays(self):
        for job in (JOB, Job((0, 1, 2), ((0, (1, 0, 0)), (0, (1, 0, 0)))), Job((0,) * 4, ((0, (1,) * 4),) * 2)):
            for pay in wrong_pays(len(job.worths)):
                self.check(BadPay, gain, job, 0, pay)
                self.check(BadPay, profit, job, 0, pay)
                self.check(BadPay, wanted, job, pay)

    def test_the_first_error_is_raised(self):
        for call in (gain, profit):
            for job in (None, True, (WORTHS, WORKS)):
                for work in (0, True, -1, 3):
                    for pay in (PAY, None, list(PAY), PAY[:1]):
                        self.check(BadJob, call, job, work, pay)
            for work in (True, False, -1, 3, None, "0"):
                for pay in (PAY, None, list(PAY), PAY[:1], PAY + PAY, ((-1, 1), (1, 1)), ((2, 2), (1, 1))):
                    self.check(BadWork, call, JOB, work, pay)
        for pay in (PAY, None, list(PAY)):
            self.check(BadJob, wanted, None, pay)


if __name__ == "__main__":
    unittest.main()
