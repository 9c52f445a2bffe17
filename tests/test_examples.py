"""The examples of the document, word for word."""

import doctest
import unittest

EXAMPLES = {
    "jobs": """
>>> from outcomepay.jobs import Job, gain, profit, wanted
>>> job = Job((0, 10), ((0, (3, 1)), (2, (1, 1)), (5, (1, 3))))
>>> pay = ((0, 1), (12, 1))
>>> [[gain(job, work, pay) for work in range(3)], profit(job, 2, pay), wanted(job, pay), wanted(job, ((0, 1), (0, 1)))]
[[(3, 1), (4, 1), (4, 1)], (-3, 2), [1, 2], [None, 0]]
""",
    "pays": """
>>> from outcomepay.jobs import Job
>>> from outcomepay.pays import Barred, Enough, least_pay, pay_cost
>>> job = Job((0, 10), ((0, (3, 1)), (2, (1, 1)), (5, (1, 3))))
>>> mixed = Job((0, 5, 9), ((3, (1, 2, 1)), (1, (1, 1, 0)), (2, (0, 1, 1))))
>>> pay = ((0, 1), (12, 1))
>>> shown = [Enough(pay, {1: (3, 1)}).shows(job, 2), Enough(pay, {1: (2, 1)}).shows(job, 2), Barred({1: (1, 2), 2: (1, 2)}).shows(mixed, 0), Barred({2: (1, 1)}).shows(mixed, 0), Barred({2: (1, 1)}).shows(mixed, 0, rising=True)]
>>> [[pay_cost(job, work) for work in range(3)], least_pay(job, 2).pay, shown, pay_cost(mixed, 0), [pay_cost(mixed, work, rising=True) for work in range(3)]]
[[(0, 1), (4, 1), (9, 1)], ((0, 1), (12, 1)), [True, False, True, False, True], None, [None, (1, 1), (2, 1)]]
""",
    "choices": """
>>> from outcomepay.choices import Best, best_profit, choose
>>> from outcomepay.jobs import Job
>>> job, poor = Job((0, 10), ((0, (3, 1)), (2, (1, 1)), (5, (1, 3)))), Job((0, 1), ((1, (1, 1)), (2, (1, 2))))
>>> found = choose(job)
>>> [found.work, [work for work, need in found], best_profit(job), choose(poor).work, best_profit(poor), Best(1, found.needs).shows(job), found.shows(job)]
[0, [0, 1, 2], (5, 2), None, (0, 1), False, True]
""",
    "shares": """
>>> from outcomepay.jobs import Job
>>> from outcomepay.shares import best_share, done, turns
>>> job, rich = Job((0, 10), ((0, (3, 1)), (2, (1, 1)), (5, (1, 3)))), Job((0, 20), ((0, (1, 0)), (2, (1, 1)), (3, (1, 3))))
>>> [turns(job), best_share(job), turns(rich), [done(rich, share) for share in ((0, 1), (1, 5), (1, 1))], best_share(rich)]
[[((0, 1), 0), ((4, 5), 1)], ((0, 1), (5, 2)), [((0, 1), None), ((1, 5), 2)], [None, 2, 2], ((1, 5), (12, 1))]
""",
    "seen": """
>>> from outcomepay.jobs import Job
>>> from outcomepay.seen import Seen, Unseen, offer, offer_cost, see, seen_cost
>>> job, fine = Job((0, 4, 8), ((0, (2, 1, 1)), (2, (1, 2, 1)))), ((0,), (1,), (2,))
>>> offers = {((0,), (1, 2)): 0, fine: 1, ((0, 1), (2,)): 0}
>>> shown = [Seen(((0, 1), (8, 1), (0, 1)), {0: (2, 1)}).shows(job, 1, fine), Seen(((0, 1), (8, 1), (0, 1)), {0: (2, 1)}).shows(job, 1, ((0,), (1, 2))), Unseen({0: (1, 1)}).shows(job, 1, ((0, 1), (2,)))]
>>> [[seen_cost(job, 1, groups) for groups in sorted(offers)], see(job, 1, fine).pay, shown, offer(job, 1, offers).groups, offer_cost(job, 1, offers)]
[[(4, 1), (6, 1), None], ((0, 1), (8, 1), (0, 1)), [True, False, True], ((0,), (1,), (2,)), (5, 1)]
""",
    "menus": """
>>> from outcomepay.jobs import Job
>>> from outcomepay.menus import Menu, NoMenu, best_wish, menu, menu_cost
>>> job, kinds = Job((0, 4, 8), ((0, (2, 1, 1)), (2, (1, 2, 1)))), ((1, (0, 2)), (1, (0, 4)))
>>> pay = ((0, 1), (8, 1), (0, 1))
>>> shown = [Menu((pay, pay), {(0, 0, 0): (3, 2), (1, 0, 0): (1, 2)}).shows(job, kinds, (1, 0)), Menu((pay, pay), {}).shows(job, kinds, (1, 0)), NoMenu({(0, 1, 1): (1, 1), (1, 0, 0): (1, 1)}).shows(job, kinds, (0, 1))]
>>> [[menu_cost(job, kinds, wish) for wish in ((1, 1), (1, 0), (0, 0), (0, 1))], best_wish(job, kinds), shown, menu(job, kinds, (1, 0)).shows(job, kinds, (1, 0))]
[[(8, 1), (3, 1), (0, 1), None], ((0, 0), (3, 1)), [True, False, True], True]
""",
    "wages": """
>>> from outcomepay.jobs import Job
>>> from outcomepay.wages import NoWage, Wage, least_wage, rule, rule_wage
>>> job, half = Job((0, 4, 8), ((0, (2, 1, 1)), (2, (1, 2, 1)))), (1, 2)
>>> shown = [Wage((12, 1), 0).shows(job, 1, half, (0,)), Wage((14, 1), 0).shows(job, 1, half, (0,)), NoWage(None, 0).shows(job, 1, half, ()), NoWage(None, 0).shows(job, 1, half, (1,))]
>>> [[least_wage(job, 1, half, fired) for fired in ((), (0,), (1,), (0, 2))], least_wage(job, 0, half, (0,)), shown, rule(job, 1, half).fired, rule_wage(job, 1, half)]
[[None, (12, 1), None, (14, 1)], (0, 1), [True, False, True, True], (0,), (12, 1)]
""",
    "sessions and texts": r"""
>>> from outcomepay.jobs import Job
>>> from outcomepay.sessions import Session
>>> from outcomepay.texts import job_text, pay_text, read_job, read_pay
>>> job, pay = Job((0, 4, 8), ((0, (2, 1, 1)), (2, (1, 2, 1)))), ((0, 1), (8, 1), (1, 2))
>>> session = Session(job, pay)
>>> found = [session.do(1, 1), session.worker(), session.payer(), session.tried([(0, 0), (1, 3)]), session.journal, session.undo(), len(session)]
>>> texts = [job_text(job), pay_text(job, pay), read_pay(job, '0 pays 0/1\n1 pays 3/4\n2 pays 12/1\n')]
>>> [found, texts, read_job(job_text(job)) == job]
[[1, (6, 1), (-4, 1), [0, 2], [(1, 1)], (1, 1), 0], ['worths 0 4 8\neffort 0 parts 2 1 1\neffort 2 parts 1 2 1\n', '0 pays 0/1\n1 pays 8/1\n2 pays 1/2\n', ((0, 1), (3, 4), (12, 1))], True]
""",
}


class Examples(unittest.TestCase):
    def test_examples(self):
        for name, text in EXAMPLES.items():
            with self.subTest(name):
                test = doctest.DocTestParser().get_doctest(text, {}, name, None, 0)
                told = []
                result = doctest.DocTestRunner(verbose=False).run(test, out=told.append)
                self.assertEqual(result.failed, 0, "".join(told))
                self.assertGreater(result.attempted, 0)


if __name__ == "__main__":
    unittest.main()
