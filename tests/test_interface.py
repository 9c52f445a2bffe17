"""The names, arguments and properties that the interface of the document lists."""

import inspect
import unittest

from outcomepay import choices, jobs, menus, pays, seen, sessions, shares, texts, wages

SIGNATURES = {
    jobs: "Job(worths, works) gain(job, work, pay) profit(job, work, pay) wanted(job, pay)",
    pays: "least_pay(job, work, *, rising=False) pay_cost(job, work, *, rising=False) Enough(pay, weights) "
          "Enough.shows(self, job, work, *, rising=False) Barred(mix) Barred.shows(self, job, work, *, rising=False)",
    choices: "choose(job, *, rising=False) best_profit(job, *, rising=False) Best(work, needs) "
             "Best.shows(self, job, *, rising=False)",
    shares: "turns(job) done(job, share) best_share(job)",
    seen: "see(job, work, groups) seen_cost(job, work, groups) Seen(pay, weights) Unseen(mix) "
          "Seen.shows(self, job, work, groups) Unseen.shows(self, job, work, groups) offer(job, work, offers) "
          "offer_cost(job, work, offers) Offer(groups, rows) Offer.shows(self, job, work, offers)",
    menus: "menu(job, kinds, wish) menu_cost(job, kinds, wish) Menu(pays, weights) NoMenu(weights) "
           "Menu.shows(self, job, kinds, wish) NoMenu.shows(self, job, kinds, wish) best_wish(job, kinds)",
    wages: "wage(job, work, patience, fired) least_wage(job, work, patience, fired) Wage(wage, why) "
           "NoWage(one, other) Wage.shows(self, job, work, patience, fired) "
           "NoWage.shows(self, job, work, patience, fired) rule(job, work, patience) rule_wage(job, work, patience) "
           "Rule(fired, rows) Rule.shows(self, job, work, patience)",
    sessions: "Session(job, pay) Session.do(self, work, draw) Session.worker(self) Session.payer(self) "
              "Session.undo(self) Session.branch(self) Session.trial(self) Session.tried(self, steps)",
    texts: "job_text(job) pay_text(job, pay) read_job(text) read_pay(job, text)",
}
PROPERTIES = {jobs.Job: ("worths", "works"), sessions.Session: ("journal",)}
ITERATED = (pays.Barred, choices.Best, seen.Unseen, seen.Offer, menus.Menu, menus.NoMenu, wages.Rule, sessions.Session)


def listed(module):
    """The names that the interface lists for a module, with their signatures."""
    for entry in SIGNATURES[module].replace(") ", ")\n").split("\n"):
        name, _, rest = entry.partition("(")
        yield name, "(" + rest


class Interface(unittest.TestCase):
    def test_signatures(self):
        for module in SIGNATURES:
            for name, expected in listed(module):
                found = module
                for part in name.split("."):
                    found = vars(found)[part]
                self.assertEqual(str(inspect.signature(found)), expected, name)
                self.assertEqual(found.__module__, module.__name__, name)

    def test_properties(self):
        for made, names in PROPERTIES.items():
            for name in names:
                self.assertIsInstance(vars(made)[name], property)

    def test_what_can_be_iterated_over(self):
        for made in ITERATED:
            self.assertIn("__iter__", vars(made))
        for made in (jobs.Job, sessions.Session):
            self.assertIn("__len__", vars(made))

    def test_arguments_by_name(self):
        job = jobs.Job(worths=(0, 4, 8), works=((0, (2, 1, 1)), (2, (1, 2, 1))))
        kinds = ((1, (0, 2)), (1, (0, 4)))
        self.assertEqual(menus.menu_cost(wish=(1, 0), kinds=kinds, job=job), (3, 1))
        self.assertEqual(wages.least_wage(fired=(0,), patience=(1, 2), work=1, job=job), (12, 1))
        session = sessions.Session(pay=((0, 1), (8, 1), (1, 2)), job=job)
        self.assertEqual([session.do(draw=1, work=1), session.tried(steps=[(0, 0)])], [1, [0]])
        self.assertEqual(texts.read_job(text=texts.job_text(job=job)), job)


if __name__ == "__main__":
    unittest.main()
