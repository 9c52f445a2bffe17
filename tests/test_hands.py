"""Jobs that can be followed by hand, through all that is told of them."""

import unittest

from outcomepay.choices import best_profit, choose
from outcomepay.jobs import Job, gain, profit, wanted
from outcomepay.pays import Barred, Enough, least_pay, pay_cost
from outcomepay.shares import best_share, done, turns

ZERO = (0, 1)
ONE = (1, 1)


class Shop(unittest.TestCase):
    """A sale is worth 12. Without an effort, one of six customers buys; with an effort of 1, one of two."""

    JOB = Job((0, 12), ((0, (5, 1)), (1, (1, 1))))

    def test_gains_and_profits(self):
        pay = (ZERO, (3, 1))
        self.assertEqual([gain(self.JOB, 0, pay), gain(self.JOB, 1, pay)], [(1, 2), (1, 2)])
        self.assertEqual([profit(self.JOB, 0, pay), profit(self.JOB, 1, pay)], [(3, 2), (9, 2)])
        self.assertEqual(wanted(self.JOB, pay), [0, 1])
        self.assertEqual(wanted(self.JOB, (ZERO, (2, 1))), [0])
        self.assertEqual(wanted(self.JOB, (ZERO, (4, 1))), [1])
        self.assertEqual(wanted(self.JOB, (ZERO, ZERO)), [None, 0])

    def test_least_pays(self):
        # The chance of a sale grows by 1/3, so 3 for a sale pay for the effort; 3/2 on average.
        for rising in (False, True):
            found = least_pay(self.JOB, 1, rising=rising)
            self.assertEqual(found, Enough((ZERO, (3, 1)), {0: (3, 2)}))
            self.assertTrue(found.shows(self.JOB, 1, rising=rising))
            self.assertEqual([pay_cost(self.JOB, work, rising=rising) for work in range(2)], [ZERO, (3, 2)])

    def test_the_best_work(self):
        # Worth 2 for nothing, or 6 for 3/2.
        for rising in (False, True):
            self.assertEqual([choose(self.JOB, rising=rising).work, best_profit(self.JOB, rising=rising)], [1, (9, 2)])
        # A sale is worth 4: 2/3 for nothing, or 2 for 3/2.
        small = Job((0, 4), self.JOB.works)
        self.assertEqual([choose(small).work, best_profit(small)], [0, (2, 3)])

    def test_shares(self):
        # The effort is worth 4 more: it is made from a share of 1/4 on, and 3/4 of 6 are left then.
        self.assertEqual(turns(self.JOB), [(ZERO, 0), ((1, 4), 1)])
        self.assertEqual([done(self.JOB, share) for share in (ZERO, (6, 25), (1, 4), (3, 4), ONE)], [0, 0, 1, 1, 1])
        self.assertEqual(best_share(self.JOB), ((1, 4), (9, 2)))


class Barring(unittest.TestCase):
    """The works 1 and 2 in turn bring what the work 0 brings, with half of its effort."""

    JOB = Job((0, 5, 9), ((3, (1, 2, 1)), (1, (1, 1, 0)), (2, (0, 1, 1))))

    def test_least_pays(self):
        self.assertEqual(least_pay(self.JOB, 0), Barred({1: (1, 2), 2: (1, 2)}))
        # Outcome 0 is paid with 2 for the work 1, outcome 2 with 4 for the work 2: no other work gains.
        self.assertTrue(Enough(((2, 1), ZERO, ZERO), {None: ONE}).shows(self.JOB, 1))
        self.assertTrue(Enough((ZERO, ZERO, (4, 1)), {None: ONE}).shows(self.JOB, 2))
        self.assertEqual([pay_cost(self.JOB, work) for work in range(3)], [None, ONE, (2, 1)])

    def test_rising_pays(self):
        # With rising pays the work 2 alone is never worse than the work 0.
        self.assertTrue(Barred({2: ONE}).shows(self.JOB, 0, rising=True))
        self.assertFalse(Barred({2: ONE}).shows(self.JOB, 0))
        self.assertTrue(Enough((ONE, ONE, ONE), {None: ONE}).shows(self.JOB, 1, rising=True))
        self.assertEqual([pay_cost(self.JOB, work, rising=True) for work in range(3)], [None, ONE, (2, 1)])

    def test_the_best_work(self):
        # Worth 19/4, 5/2 and 7; the works 1 and 2 cost 1 and 2.
        self.assertEqual([profit(self.JOB, work, (ZERO, ZERO, ZERO)) for work in range(3)], [(19, 4), (5, 2), (7, 1)])
        self.assertEqual([choose(self.JOB).work, best_profit(self.JOB)], [2, (5, 1)])

    def test_shares(self):
        # The work 2 pays from 2/7 on, the work 1 would from 2/5 on.
        self.assertEqual(turns(self.JOB), [(ZERO, None), ((2, 7), 2)])
        self.assertEqual([done(self.JOB, share) for share in (ZERO, (1, 7), (2, 7), ONE)], [None, None, 2, 2])
        self.assertEqual(best_share(self.JOB), ((2, 7), (5, 1)))


class Alike(unittest.TestCase):
    """Two works with the same chances, one of them with more effort, and nothing that is worth the effort."""

    JOB = Job((1, 1), ((4, (2, 2)), (3, (1, 1))))

    def test_all(self):
        self.assertEqual(least_pay(self.JOB, 0), Barred({1: ONE}))
        self.assertEqual([pay_cost(self.JOB, 1), pay_cost(self.JOB, 1, rising=True)], [(3, 1), (3, 1)])
        self.assertEqual([choose(self.JOB).work, best_profit(self.JOB)], [None, ZERO])
        self.assertEqual([turns(self.JOB), best_share(self.JOB)], [[(ZERO, None)], (ZERO, ZERO)])
        self.assertIsNone(done(self.JOB, ONE))
        # From a worth of 3 on it is worth the effort, just so.
        even = Job((3, 3), self.JOB.works)
        self.assertEqual([choose(even).work, best_profit(even)], [1, ZERO])
        self.assertEqual([turns(even), best_share(even)], [[(ZERO, None), (ONE, 1)], (ZERO, ZERO)])


if __name__ == "__main__":
    unittest.main()
