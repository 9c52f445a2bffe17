"""No argument is changed or kept, what is returned is new, and objects of different classes are not equal."""

import copy
import unittest

from outcomepay.choices import Best, best_profit, choose
from outcomepay.errors import PayError
from outcomepay.jobs import Job, gain, profit, wanted
from outcomepay.menus import Menu, NoMenu, best_wish, menu, menu_cost
from outcomepay.pays import Barred, Enough, least_pay, pay_cost
from outcomepay.seen import Offer, Seen, Unseen, offer, offer_cost, see, seen_cost
from outcomepay.sessions import Session
from outcomepay.shares import best_share, done, turns
from outcomepay.texts import job_text, pay_text, read_job, read_pay
from outcomepay.wages import NoWage, Rule, Wage, least_wage, rule, rule_wage, wage
from tests import model
from tests.test_language import INTERFACE

ZERO = (0, 1)
ONE = (1, 1)
FINE = ((0,), (1,), (2,))
LAST = ((0, 1), (2,))
JOB = Job((0, 4, 8), ((0, (2, 1, 1)), (2, (1, 2, 1))))
PAY = (ZERO, (8, 1), ZERO)
KINDS = ((1, (0, 2)), (1, (0, 4)))
HALF = (1, 2)


def pictured(thing):
    """All that a thing holds, in order, with the kinds of what it holds."""
    if isinstance(thing, dict):
        return (dict, [(pictured(key), pictured(thing[key])) for key in thing])
    if isinstance(thing, (list, tuple)):
        return (type(thing), [pictured(each) for each in thing])
    return (type(thing), pictured(vars(thing))) if hasattr(thing, "__dict__") else (type(thing), thing)


def calls():
    """All functions and `shows` of the package with arguments for them, new ones each time."""
    job = Job((0, 4, 8), ((0, (2, 1, 1)), (2, (1, 2, 1))))
    for rising in (False, True):
        more = {"rising": rising}
        yield from [(least_pay, (job, 1), more), (pay_cost, (job, 1), more), (choose, (job,), more)]
        yield from [(best_profit, (job,), more), (least_pay(job, 1, **more).shows, (job, 1), more)]
        yield from [(Barred({0: ONE}).shows, (job, 1), more), (choose(job, **more).shows, (job,), more)]
    yield from [(gain, (job, 1, PAY), {}), (profit, (job, 1, PAY), {}), (wanted, (job, PAY), {}), (turns, (job,), {})]
    yield from [(done, (job, (1, 2)), {}), (best_share, (job,), {})]
    for groups in (FINE, LAST):
        yield from [(see, (job, 1, groups), {}), (seen_cost, (job, 1, groups), {})]
        yield see(job, 1, groups).shows, (job, 1, groups), {}
    for call in (offer, offer_cost, offer(job, 1, {LAST: 0, FINE: 1}).shows):
        yield call, (job, 1, {LAST: 0, FINE: 1}), {}
    yield Best, (1, {1: Barred({0: ONE}), 0: Enough(PAY, {None: ONE})}), {}
    yield Offer, (FINE, {LAST: Unseen({0: ONE}), FINE: Seen(PAY, {None: ONE})}), {}
    for made in (Enough, Seen):
        yield made, (PAY, {1: ONE, None: ZERO}), {}
    for made in (Barred, Unseen):
        yield made, ({1: ONE, 0: ZERO},), {}
    yield from later_calls()


def later_calls():
    """Those of menus, wages, sessions and texts."""
    job = Job((0, 4, 8), ((0, (2, 1, 1)), (2, (1, 2, 1))))
    for wish in ((1, 0), (0, 1)):
        for call in (menu, menu_cost, menu(job, KINDS, wish).shows, NoMenu({(0, 1, 1): ONE}).shows):
            yield call, (job, KINDS, wish), {}
    yield best_wish, (job, KINDS), {}
    for fired in ((0,), ()):
        for call in (wage, least_wage, wage(job, 1, HALF, fired).shows, Wage((12, 1), 0).shows):
            yield call, (job, 1, HALF, fired), {}
    for call in (rule, rule_wage, rule(job, 1, HALF).shows, Rule(None, {}).shows):
        yield call, (job, 1, HALF), {}
    yield from [(Menu, ((PAY, PAY), {(0, 0, 0): ONE, (1, None, None): ZERO}), {}), (NoMenu, ({(0, 1, 1): ONE},), {})]
    yield from [(Wage, (HALF, None), {}), (NoWage, (None, 0), {}), (Rule, ((0,), {(0,): Wage(HALF, None)}), {})]
    yield from [(Session, (job, PAY), {}), (session().tried, ([(0, 0), (1, 3)],), {}), (read_job, (job_text(job),), {})]
    yield from [(job_text, (job,), {}), (pay_text, (job, PAY), {}), (read_pay, (job, pay_text(job, PAY)), {})]


def session():
    found = Session(JOB, PAY)
    found.do(1, 1)
    return found


SESSION = session()


class Arguments(unittest.TestCase):
    def test_every_function_is_called(self):
        called = {call.__name__ for call, arguments, more in calls()}
        for name in INTERFACE:
            if name != "errors.py":
                self.assertLessEqual(set(INTERFACE[name].split()), called | {"Job"})

    def test_they_are_left_as_they_are(self):
        for call, arguments, more in calls():
            before = pictured(arguments)
            held = pictured(getattr(call, "__self__", None))
            call(*arguments, **more)
            self.assertEqual(pictured(arguments), before, call)
            self.assertEqual(pictured(getattr(call, "__self__", None)), held, call)

    def test_they_are_left_as_they_are_if_they_are_refused(self):
        wrong = ([0, 1], {FINE: 0, LAST: 10}, {FINE: [1], None: []}, [[0], [1, 2]], None)
        for call, arguments, more in calls():
            if isinstance(call, type):
                continue
            for at in range(len(arguments)):
                for thing in wrong:
                    changed = list(arguments)
                    changed[at] = copy.deepcopy(thing)
                    before = pictured(changed)
                    held = pictured(getattr(call, "__self__", None))
                    with self.assertRaises(PayError):
                        call(*changed, **more)
                    self.assertEqual(pictured(changed), before)
                    self.assertEqual(pictured(getattr(call, "__self__", None)), held)

    def test_they_are_not_kept(self):
        for call, arguments, more in calls():
            found = call(*arguments, **more)
            before = pictured(found)
            for each in arguments:
                if isinstance(each, (dict, list)):
                    each.clear()
            self.assertEqual(pictured(found), before, call)

    def test_what_is_returned_is_new(self):
        for call, arguments, more in calls():
            first, second = call(*arguments, **more), call(*arguments, **more)
            self.assertEqual(pictured(first), pictured(second))
            for one, other in zip(held_by(first), held_by(second)):
                self.assertIsNot(one, other)
                one.clear()
            self.assertEqual(pictured(call(*arguments, **more)), pictured(second), call)

    def test_the_same_each_time(self):
        for job in model.some_jobs(61, 20):
            again = Job(job.worths, job.works)
            self.assertEqual([choose(job), turns(job)], [choose(again), turns(again)])
            self.assertEqual(best_share(job), best_share(again))
            self.assertEqual([rule(job, 1, HALF), job_text(job)], [rule(again, 1, HALF), job_text(again)])
            kinds = ((1, (2,) * len(job)), (6, tuple(range(len(job)))))
            self.assertEqual([menu(job, kinds, (0, 1)), best_wish(job, kinds)],
                             [menu(again, kinds, (0, 1)), best_wish(again, kinds)])


def held_by(thing):
    """All lists and dicts that a function returns, or that an object holds itself."""
    if isinstance(thing, (list, dict)):
        return [thing]
    attributes = vars(thing).values() if hasattr(thing, "__dict__") else ()
    return [each for each in attributes if isinstance(each, (list, dict))]


class Objects(unittest.TestCase):
    def things(self):
        return [JOB, Enough(PAY, {}), Seen(PAY, {}), Barred({}), Unseen({}), Best(None, {}), Offer(None, {}),
                Menu(PAY, {}), NoMenu({}), Wage(None, None), NoWage(None, None), Rule(None, {}), SESSION]

    def test_different_classes(self):
        for k, one in enumerate(self.things()):
            for j, other in enumerate(self.things()):
                self.assertIs(one == other, k == j)
                self.assertIs(one != other, k != j)

    def test_different_classes_with_something_in_them(self):
        filled = [Enough(PAY, {0: ONE}), Seen(PAY, {0: ONE}), Barred({0: ONE}), Unseen({0: ONE}),
                  Best(0, {0: Barred({})}), Offer(0, {0: Barred({})}), Menu(PAY, {0: ONE}), NoMenu({0: ONE}),
                  Wage(0, 0), NoWage(0, 0), Rule(0, {0: Barred({})}), session()]
        for k, one in enumerate(filled):
            for j, other in enumerate(filled):
                self.assertIs(one == other, k == j)
        self.assertTrue(Best(0, {0: Barred({})}) != Best(0, {0: Unseen({})}))
        self.assertTrue(Offer(None, {0: Enough((), {})}) != Offer(None, {0: Seen((), {})}))

    def test_attributes_that_are_changed_count(self):
        changes = [
            ("pay", Enough(PAY, {}), Enough((), {})), ("weights", Enough(PAY, {}), Enough(PAY, {0: ONE})),
            ("pay", Seen(PAY, {}), Seen((), {})), ("weights", Seen(PAY, {}), Seen(PAY, {0: ONE})),
            ("mix", Barred({}), Barred({0: ONE})), ("mix", Unseen({}), Unseen({0: ONE})),
            ("work", Best(0, {}), Best(1, {})), ("needs", Best(0, {}), Best(0, {0: Barred({})})),
            ("groups", Offer(FINE, {}), Offer(LAST, {})), ("rows", Offer(FINE, {}), Offer(FINE, {LAST: 1})),
            ("pays", Menu((PAY,), {}), Menu((), {})), ("weights", Menu((), {}), Menu((), {(0, 0, 0): ONE})),
            ("weights", NoMenu({}), NoMenu({(0, 0, 0): ONE})), ("wage", Wage(ONE, 0), Wage(HALF, 0)),
            ("why", Wage(ONE, 0), Wage(ONE, None)), ("one", NoWage(None, 0), NoWage(1, 0)),
            ("other", NoWage(None, 0), NoWage(None, 1)), ("fired", Rule((), {}), Rule((0,), {})),
            ("rows", Rule((), {}), Rule((), {(): Wage(ONE, None)})),
        ]
        for name, one, other in changes:
            self.assertTrue(one != other)
            setattr(one, name, copy.deepcopy(getattr(other, name)))
            self.assertTrue(one == other)
            self.assertFalse(one != other)

    def test_iteration_begins_anew(self):
        pairs = [(1, ONE), (0, ZERO)]
        for thing in (Barred(dict(pairs)), Unseen(dict(pairs)), Best(None, dict(pairs)), Offer(None, dict(pairs)),
                      NoMenu(dict(pairs)), Rule(None, dict(pairs))):
            first, second = iter(thing), iter(thing)
            self.assertEqual(next(first), pairs[0])
            self.assertEqual(list(second), pairs)
            self.assertEqual(list(first), pairs[1:])
            self.assertEqual(dict(thing), dict(pairs))
        found = Menu((PAY, ()), {})
        first, second = iter(found), iter(found)
        self.assertEqual([next(first), list(second), list(first)], [PAY, [PAY, ()], [()]])


if __name__ == "__main__":
    unittest.main()
