"""Jobs that can be followed by hand, through all that is told of them."""

import unittest

from outcomepay.choices import best_profit, choose
from outcomepay.jobs import Job, gain, profit, wanted
from outcomepay.menus import Menu, NoMenu, best_wish, menu, menu_cost
from outcomepay.pays import Barred, Enough, least_pay, pay_cost
from outcomepay.seen import Offer, Seen, Unseen, offer, offer_cost, see, seen_cost
from outcomepay.sessions import Session
from outcomepay.shares import best_share, done, turns
from outcomepay.texts import job_text, pay_text, read_job, read_pay
from outcomepay.wages import NoWage, Rule, Wage, least_wage, rule, rule_wage, wage

ZERO = (0, 1)
ONE = (1, 1)
HALF = (1, 2)


class Shop(unittest.TestCase):
    """A sale is worth 12. Without an effort, one of six customers buys; with an effort of 1, one of two."""

    JOB = Job((0, 12), ((0, (5, 1)), (1, (1, 1))))

    def test_gains_and_profits(self):
        pay = (ZERO, (3, 1))
        self.assertEqual([gain(self.JOB, 0, pay), gain(self.JOB, 1, pay)], [(1, 2), (1, 2)])
        self.assertEqual([profit(self.JOB, 0, pay), profit(self.JOB, 1, pay)], [(3, 2), (9, 2)])
        self.assertEqual(wanted(self.JOB, pay), [0, 1])
        self.assertEqual(wanted(self.JOB, (ZERO, (2, 1))), [0])
        self.assertEqual(wanted(self.JOB, (ZERO, (4, 1))), [1])
        self.assertEqual(wanted(self.JOB, (ZERO, ZERO)), [None, 0])

    def test_least_pays(self):
        # The chance of a sale grows by 1/3, so 3 for a sale pay for the effort; 3/2 on average.
        for rising in (False, True):
            found = least_pay(self.JOB, 1, rising=rising)
            self.assertEqual(found, Enough((ZERO, (3, 1)), {0: (3, 2)}))
            self.assertTrue(found.shows(self.JOB, 1, rising=rising))
            self.assertEqual([pay_cost(self.JOB, work, rising=rising) for work in range(2)], [ZERO, (3, 2)])

    def test_the_best_work(self):
        # Worth 2 for nothing, or 6 for 3/2.
        for rising in (False, True):
            self.assertEqual([choose(self.JOB, rising=rising).work, best_profit(self.JOB, rising=rising)], [1, (9, 2)])
        # A sale is worth 4: 2/3 for nothing, or 2 for 3/2.
        small = Job((0, 4), self.JOB.works)
        self.assertEqual([choose(small).work, best_profit(small)], [0, (2, 3)])

    def test_shares(self):
        # The effort is worth 4 more: it is made from a share of 1/4 on, and 3/4 of 6 are left then.
        self.assertEqual(turns(self.JOB), [(ZERO, 0), ((1, 4), 1)])
        self.assertEqual([done(self.JOB, share) for share in (ZERO, (6, 25), (1, 4), (3, 4), ONE)], [0, 0, 1, 1, 1])
        self.assertEqual(best_share(self.JOB), ((1, 4), (9, 2)))

    def test_groups_and_offers(self):
        fine, whole = ((0,), (1,)), ((0, 1),)
        # Whoever sees no sale cannot pay for one.
        self.assertEqual([seen_cost(self.JOB, 1, groups) for groups in (fine, whole)], [(3, 2), None])
        self.assertEqual(see(self.JOB, 1, fine), Seen((ZERO, (3, 1)), {0: (3, 2)}))
        self.assertEqual(see(self.JOB, 1, whole), Unseen({0: ONE}))
        found = Offer(fine, {fine: Seen((ZERO, (3, 1)), {0: (3, 2)}), whole: Unseen({0: ONE})})
        self.assertEqual(offer(self.JOB, 1, {whole: 0, fine: 9}), found)
        self.assertEqual([offer_cost(self.JOB, work, {whole: 0, fine: 9}) for work in range(2)], [ZERO, (21, 2)])

    def test_menus(self):
        # The kind 1 makes an effort of 2: a sale must pay 6 for it, and then does so for both.
        kinds = ((2, (0, 1)), (1, (0, 2)))
        wishes = ((0, 0), (0, 1), (1, 0), (1, 1))
        self.assertEqual([menu_cost(self.JOB, kinds, wish) for wish in wishes], [ZERO, None, (7, 6), (3, 1)])
        self.assertTrue(Menu(((ZERO, (6, 1)),) * 2, {(0, 1, 1): (2, 3), (1, 1, 0): (3, 2), (1, 0, 0): ZERO})
                        .shows(self.JOB, kinds, (1, 1)))
        # Worth 2 for no effort and 6 for an effort: 2, 14/3 - 7/6 and 6 - 3.
        self.assertEqual(best_wish(self.JOB, kinds), ((1, 0), (7, 2)))
        # If the kind 0 does not do for this pay what the kind 1 does, it gains no less with less effort.
        self.assertTrue(NoMenu({(0, 1, 1): ONE, (1, 0, 0): ONE}).shows(self.JOB, kinds, (0, 1)))
        self.assertIsInstance(menu(self.JOB, kinds, (0, 1)), NoMenu)

    def test_wages_and_rules(self):
        # With a patience of 1/2, dismissed without a sale: drains of 11/12 and 3/4, the value 6 for 11/2.
        self.assertEqual(wage(self.JOB, 1, HALF, (0,)), Wage((11, 2), 0))
        self.assertEqual([least_wage(self.JOB, 1, patience, (0,)) for patience in (ZERO, (1, 4), (1, 5))],
                         [None, (23, 2), (29, 2)])
        rows = {(): NoWage(None, 0), (0,): Wage((11, 2), 0), (1,): NoWage(None, 0), (0, 1): NoWage(None, 0)}
        self.assertEqual(rule(self.JOB, 1, HALF), Rule((0,), rows))
        self.assertEqual([rule_wage(self.JOB, work, HALF) for work in range(2)], [ZERO, (11, 2)])

    def test_a_day(self):
        session = Session(self.JOB, (ZERO, (3, 1)))
        # Without an effort, the draw 5 alone is a sale; with an effort, the draw 1 is.
        self.assertEqual([session.do(0, draw) for draw in (0, 4, 5)], [0, 0, 1])
        self.assertEqual([session.do(1, draw) for draw in (0, 1)], [0, 1])
        # Two sales, two efforts.
        self.assertEqual([session.worker(), session.payer()], [(4, 1), (18, 1)])
        self.assertEqual([session.undo(), session.worker(), session.payer()], [(1, 1), (2, 1), (9, 1)])

    def test_texts(self):
        text = "worths 0 12\neffort 0 parts 5 1\neffort 1 parts 1 1\n"
        self.assertEqual([job_text(self.JOB), read_job(text)], [text, self.JOB])
        self.assertEqual(pay_text(self.JOB, (ZERO, (3, 2))), "0 pays 0/1\n1 pays 3/2\n")
        self.assertEqual(read_pay(self.JOB, "0 pays 0/1\n1 pays 3/2\n"), (ZERO, (3, 2)))


class Barring(unittest.TestCase):
    """The works 1 and 2 in turn bring what the work 0 brings, with half of its effort."""

    JOB = Job((0, 5, 9), ((3, (1, 2, 1)), (1, (1, 1, 0)), (2, (0, 1, 1))))

    def test_least_pays(self):
        self.assertEqual(least_pay(self.JOB, 0), Barred({1: (1, 2), 2: (1, 2)}))
        # Outcome 0 is paid with 2 for the work 1, outcome 2 with 4 for the work 2: no other work gains.
        self.assertTrue(Enough(((2, 1), ZERO, ZERO), {None: ONE}).shows(self.JOB, 1))
        self.assertTrue(Enough((ZERO, ZERO, (4, 1)), {None: ONE}).shows(self.JOB, 2))
        self.assertEqual([pay_cost(self.JOB, work) for work in range(3)], [None, ONE, (2, 1)])

    def test_rising_pays(self):
        # With rising pays the work 2 alone is never worse than the work 0.
        self.assertTrue(Barred({2: ONE}).shows(self.JOB, 0, rising=True))
        self.assertFalse(Barred({2: ONE}).shows(self.JOB, 0))
        self.assertTrue(Enough((ONE, ONE, ONE), {None: ONE}).shows(self.JOB, 1, rising=True))
        self.assertEqual([pay_cost(self.JOB, work, rising=True) for work in range(3)], [None, ONE, (2, 1)])

    def test_the_best_work(self):
        # Worth 19/4, 5/2 and 7; the works 1 and 2 cost 1 and 2.
        self.assertEqual([profit(self.JOB, work, (ZERO, ZERO, ZERO)) for work in range(3)], [(19, 4), (5, 2), (7, 1)])
        self.assertEqual([choose(self.JOB).work, best_profit(self.JOB)], [2, (5, 1)])

    def test_shares(self):
        # The work 2 pays from 2/7 on, the work 1 would from 2/5 on.
        self.assertEqual(turns(self.JOB), [(ZERO, None), ((2, 7), 2)])
        self.assertEqual([done(self.JOB, share) for share in (ZERO, (1, 7), (2, 7), ONE)], [None, None, 2, 2])
        self.assertEqual(best_share(self.JOB), ((2, 7), (5, 1)))

    def test_groups_and_offers(self):
        first, last, whole = ((0,), (1, 2)), ((0, 1), (2,)), ((0, 1, 2),)
        # What the works 1 and 2 bring in turn is the same for all groups.
        for groups in (first, last, whole):
            self.assertTrue(Unseen({1: HALF, 2: HALF}).shows(self.JOB, 0, groups))
        # The work 2 pays 4 for outcome 2; if all but outcome 0 look the same, 2 for them.
        self.assertEqual([seen_cost(self.JOB, 2, groups) for groups in (first, last, whole)], [(2, 1), (2, 1), None])
        self.assertEqual([seen_cost(self.JOB, 1, groups) for groups in (first, last, whole)], [ONE] * 3)
        self.assertEqual(offer(self.JOB, 2, {whole: 0, last: 2, first: 2}).groups, first)
        self.assertEqual([offer_cost(self.JOB, work, {whole: 0, last: 2, first: 2}) for work in range(3)],
                         [None, ONE, (4, 1)])

    def test_wages_and_rules(self):
        # Dismissed after outcome 2 with a patience of 1/2: drains of 5/8, 1/2 and 3/4.
        self.assertEqual([least_wage(self.JOB, work, HALF, (2,)) for work in range(3)], [None, ONE, None])
        # The work 0 is better than the work 2 from 8 on, and than the work 1 only up to -7.
        for one in (2, None):
            self.assertTrue(NoWage(one, 1).shows(self.JOB, 0, HALF, (2,)))
        self.assertTrue(NoWage(None, 1).shows(self.JOB, 2, HALF, (2,)))
        self.assertFalse(NoWage(None, 0).shows(self.JOB, 2, HALF, (2,)))
        # Dismissed after outcome 0: 5/8, 3/4 and 1/2. At 4 the works 1 and 2 have the value 4.
        self.assertEqual([least_wage(self.JOB, work, HALF, (0,)) for work in range(3)], [None, ONE, (4, 1)])
        self.assertEqual([wage(self.JOB, work, HALF, (0,)) for work in (1, 2)], [Wage(ONE, None), Wage((4, 1), 1)])
        self.assertTrue(NoWage(1, 2).shows(self.JOB, 0, HALF, (0,)))
        self.assertEqual([rule(self.JOB, work, HALF).fired for work in range(3)], [None, (), (0,)])
        self.assertEqual([rule_wage(self.JOB, work, HALF) for work in range(3)], [None, ONE, (4, 1)])


class Alike(unittest.TestCase):
    """Two works with the same chances, one of them with more effort, and nothing that is worth the effort."""

    JOB = Job((1, 1), ((4, (2, 2)), (3, (1, 1))))

    def test_all(self):
        self.assertEqual(least_pay(self.JOB, 0), Barred({1: ONE}))
        self.assertEqual([pay_cost(self.JOB, 1), pay_cost(self.JOB, 1, rising=True)], [(3, 1), (3, 1)])
        self.assertEqual([choose(self.JOB).work, best_profit(self.JOB)], [None, ZERO])
        self.assertEqual([turns(self.JOB), best_share(self.JOB)], [[(ZERO, None)], (ZERO, ZERO)])
        self.assertIsNone(done(self.JOB, ONE))
        # From a worth of 3 on it is worth the effort, just so.
        even = Job((3, 3), self.JOB.works)
        self.assertEqual([choose(even).work, best_profit(even)], [1, ZERO])
        self.assertEqual([turns(even), best_share(even)], [[(ZERO, None), (ONE, 1)], (ZERO, ZERO)])

    def test_groups_menus_and_wages(self):
        whole, fine = ((0, 1),), ((0,), (1,))
        self.assertEqual([seen_cost(self.JOB, work, whole) for work in range(2)], [None, (3, 1)])
        self.assertEqual([offer(self.JOB, 1, {whole: 0, fine: 0}).groups, offer_cost(self.JOB, 1, {whole: 1, fine: 2})],
                         [fine, (4, 1)])
        # The kind 0 does the work 0 for 1, the kind 1 the work 1 for 2: what the one gets, the other takes too.
        kinds = ((1, (1, 3)), (1, (4, 2)))
        self.assertEqual([menu_cost(self.JOB, kinds, wish) for wish in ((0, 1), (0, 0), (1, 1), (1, 0))],
                         [(2, 1), None, None, None])
        self.assertTrue(Menu((((2, 1), (2, 1)),) * 2, {(0, 1, 0): HALF, (1, None, None): ONE}).shows(self.JOB, kinds, (0, 1)))
        self.assertEqual(best_wish(self.JOB, kinds), ((0, 1), (-1, 1)))
        # Whatever is fired, both works drain as much.
        for fired in ((), (0,), (1,), (0, 1)):
            self.assertEqual([wage(self.JOB, work, HALF, fired) for work in range(2)],
                             [NoWage(None, 1), Wage((3, 1), None)])
        self.assertEqual([rule(self.JOB, work, HALF).fired for work in range(2)], [None, ()])


if __name__ == "__main__":
    unittest.main()
