import copy
import unittest
from random import Random

from outcomepay.errors import BadJob, BadPatience, BadWork
from outcomepay.jobs import Job
from outcomepay.wages import NoWage, Rule, Wage, least_wage, rule, rule_wage, wage
from tests import model, model_wages
from tests.changes import changed_number
from tests.test_wages import HALF, JOB, ONE, SHOP, ZERO, wrong_patiences
from tests.wrong import anything

FIVE = (5, 1)
FOUR = Job((0, 0, 0, 0), ((3, (1, 2, 3, 4)), (2, (4, 3, 2, 1)), (1, (5, 0, 1, 0)), (0, (6, 1, 0, 0))))


def tries(seed, many):
    luck = Random(seed)
    for job in [JOB, SHOP, FOUR] + model.some_jobs(seed, many):
        for work in range(len(job)):
            yield job, work, model_wages.some_patience(luck)


class Ruling(unittest.TestCase):
    def test_as_the_values_tell(self):
        told = {"none": 0, "tied": 0, "first": 0, "later": 0, "two": 0, "four": 0}
        for job, work, patience in tries(101, 150):
            every = model_wages.all_fired(job)
            least = {fired: model_wages.least(job, work, patience, fired) for fired in every}
            wages = {fired: each for fired, each in least.items() if each is not None}
            best = [fired for fired in wages if wages[fired] == min(wages.values())]
            found = rule(job, work, patience)
            self.assertIs(type(found), Rule)
            self.assertEqual(found.fired, best[0] if best else None)
            self.assertEqual(rule_wage(job, work, patience), model.pair(wages[best[0]]) if best else None)
            self.assertEqual([type(row) for fired, row in found],
                             [Wage if fired in wages else NoWage for fired in every])
            told["none"] += not best
            told["tied"] += len(best) > 1
            told["first"] += bool(best) and best[0] == ()
            told["later"] += bool(best) and best[0] != min(wages, key=lambda fired: (len(fired), fired))
            told["two"] += len(every) == 4
            told["four"] += len(every) == 16
        self.assertGreater(min(told.values()), 5, told)

    def test_what_is_returned_is_shown(self):
        for job, work, patience in tries(102, 120):
            found = rule(job, work, patience)
            self.assertIs(found.shows(job, work, patience), True)
            self.assertTrue(model_wages.is_rule(job, work, patience, found.fired, found.rows))
            for fired, row in found:
                self.assertIs(row.shows(job, work, patience, fired), True)
                self.assertEqual(row, wage(job, work, patience, fired))

    def test_the_order_of_the_rows(self):
        self.assertEqual(list(rule(SHOP, 1, HALF).rows), [(), (0,), (1,), (0, 1)])
        self.assertEqual(list(rule(JOB, 1, HALF).rows),
                         [(), (0,), (1,), (2,), (0, 1), (0, 2), (1, 2), (0, 1, 2)])
        self.assertEqual(list(rule(FOUR, 1, HALF).rows),
                         [(), (0,), (1,), (2,), (3,), (0, 1), (0, 2), (0, 3), (1, 2), (1, 3), (2, 3),
                          (0, 1, 2), (0, 1, 3), (0, 2, 3), (1, 2, 3), (0, 1, 2, 3)])
        for job in (SHOP, JOB, FOUR):
            self.assertEqual(list(rule(job, 0, ZERO).rows), model_wages.all_fired(job))

    def test_by_hand(self):
        # Outcome 0 is likelier without the effort: 12 if dismissed after it, 14 also after outcome 2.
        found = rule(JOB, 1, HALF)
        self.assertEqual([found.fired, rule_wage(JOB, 1, HALF)], [(0,), (12, 1)])
        self.assertEqual([fired for fired, row in found if isinstance(row, Wage)], [(0,), (0, 2)])
        self.assertEqual([rule(SHOP, 1, HALF).fired, rule_wage(SHOP, 1, HALF)], [(0,), (11, 2)])
        # The work without an effort needs nothing, whatever is fired: the empty tuple is the first one.
        self.assertEqual([rule(JOB, 0, HALF).fired, rule_wage(JOB, 0, HALF)], [(), ZERO])

    def test_ties(self):
        # Outcome 2 never comes: whether it is fired or not, the drains are 7/8 and 3/4.
        never = Job((0, 0, 0), ((0, (3, 1, 0)), (1, (1, 1, 0))))
        found = rule(never, 1, HALF)
        self.assertEqual([found.fired, rule_wage(never, 1, HALF)], [(0,), (7, 1)])
        for fired in found.rows:
            self.assertIs(Rule(fired, found.rows).shows(never, 1, HALF), fired in ((0,), (0, 2)))
        # Outcomes 0 and 1 are as good as each other, and best together: drains of 1 and 3/4.
        twins = Job((0, 0, 0), ((0, (2, 2, 0)), (1, (1, 1, 2))))
        self.assertEqual([least_wage(twins, 1, HALF, fired) for fired in ((0,), (1,))], [(6, 1), (6, 1)])
        self.assertEqual([rule(twins, 1, HALF).fired, rule_wage(twins, 1, HALF)], [(0, 1), (4, 1)])
        # Without an effort anything will do, and the empty tuple is the first one.
        free = Job((0, 0, 0), ((0, (1, 1, 1)), (0, (1, 2, 2))))
        self.assertEqual([rule(free, work, HALF).fired for work in (0, 1)], [(), ()])
        for fired in model_wages.all_fired(free):
            self.assertTrue(Rule(fired, rule(free, 1, HALF).rows).shows(free, 1, HALF))

    def test_no_row_with_a_wage(self):
        alike = Job((0, 0), ((0, (1, 1)), (1, (2, 2))))
        for patience in (ZERO, HALF, (99, 100)):
            found = rule(alike, 1, patience)
            self.assertEqual([found.fired, rule_wage(alike, 1, patience)], [None, None])
            self.assertEqual(dict(found), {fired: NoWage(None, 0) for fired in model_wages.all_fired(alike)})
            self.assertTrue(found.shows(alike, 1, patience))
            self.assertFalse(Rule((), found.rows).shows(alike, 1, patience))
        # Without patience nobody minds being dismissed.
        self.assertEqual([rule(JOB, 1, ZERO).fired, rule_wage(JOB, 1, ZERO)], [None, None])

    def test_new_each_time(self):
        found = rule(JOB, 1, HALF)
        found.rows[(0,)].wage = None
        found.rows.clear()
        found.fired = None
        self.assertTrue(rule(JOB, 1, HALF).shows(JOB, 1, HALF))


class Showing(unittest.TestCase):
    def setUp(self):
        self.rows = rule(JOB, 1, HALF).rows

    def no(self, fired, rows, job=JOB, work=1, patience=HALF):
        self.assertIs(Rule(fired, rows).shows(job, work, patience), False, (fired, rows))

    def yes(self, fired, rows, job=JOB, work=1, patience=HALF):
        self.assertIs(Rule(fired, rows).shows(job, work, patience), True, (fired, rows))

    def test_another_tuple(self):
        self.yes((0,), self.rows)
        for fired in model_wages.all_fired(JOB):
            if fired != (0,):
                self.no(fired, self.rows)
        for fired in (None, (3,), (-1,), (0, 0), (1, 0), (0, 3), (False,), (10 ** 30,)):
            self.no(fired, self.rows)

    def test_any_order(self):
        luck = Random(103)
        for _ in range(10):
            order = luck.sample(list(self.rows), len(self.rows))
            self.yes((0,), {fired: self.rows[fired] for fired in order})

    def test_a_missing_row(self):
        for gone in self.rows:
            self.no((0,), {fired: row for fired, row in self.rows.items() if fired != gone})
        self.no((0,), {(0,): self.rows[(0,)]})
        self.no((0,), {})
        self.no(None, {})

    def test_a_further_row(self):
        for fired in ((3,), (0, 3), (-1,), (1, 0), (0, 0), (0, 1, 2, 3), (10 ** 30,)):
            self.no((0,), {**self.rows, fired: self.rows[()]})
            self.no((0,), {fired: self.rows[()], **self.rows})
            less = {key: row for key, row in self.rows.items() if key != (1,)}
            self.no((0,), {**less, fired: self.rows[(1,)]})

    def test_boolean_keys(self):
        rows = {(False,) if fired == (0,) else fired: row for fired, row in self.rows.items()}
        self.no((0,), rows)
        self.no((False,), rows)

    def test_a_changed_row(self):
        for wrong in (Wage((13, 1), 0), Wage((12, 1), None), Wage((12, 1), 1), Wage(ZERO, None), NoWage(None, 0),
                      NoWage(0, 0), self.rows[(0, 2)], self.rows[()]):
            self.no((0,), {**self.rows, (0,): wrong})
        for wrong in (Wage((2, 1), None), Wage((12, 1), 0), NoWage(0, 0), NoWage(None, 1), NoWage(None, None)):
            self.no((0,), {**self.rows, (): wrong})
            self.no((), {**self.rows, (): wrong})
            self.no((0,), {**self.rows, (0, 1, 2): wrong})
        self.no((0,), {**self.rows, (0,): self.rows[(0, 2)], (0, 2): self.rows[(0,)]})

    def test_another_job_work_or_patience(self):
        self.no((0,), self.rows, job=Job((0, 4, 8), ((0, (2, 1, 1)), (3, (1, 2, 1)))))
        self.no((0,), self.rows, job=Job((0, 4), ((0, (2, 1)), (2, (1, 2)))))
        self.no((0,), self.rows, job=FOUR)
        self.no((0,), self.rows, work=0)
        self.no((0,), self.rows, patience=(1, 3))
        self.no((0,), self.rows, patience=ZERO)

    def test_current_attributes(self):
        found = rule(JOB, 1, HALF)
        found.fired = ()
        self.assertFalse(found.shows(JOB, 1, HALF))
        self.assertTrue(found != rule(JOB, 1, HALF))
        found.fired = (0,)
        self.assertTrue(found.shows(JOB, 1, HALF))
        found.rows[(0,)].why = None
        self.assertFalse(found.shows(JOB, 1, HALF))
        found.rows[(0,)] = Wage((12, 1), 0)
        self.assertTrue(found.shows(JOB, 1, HALF))
        self.assertTrue(found == rule(JOB, 1, HALF))
        found.rows = {}
        self.assertEqual([found.shows(JOB, 1, HALF), list(found)], [False, []])

    def test_changes_are_judged_as_the_document_tells(self):
        luck = Random(104)
        told = {True: 0, False: 0}
        for job, work, patience in tries(105, 150):
            found = rule(job, work, patience)
            for _ in range(3):
                changed = Rule(changed_fired(luck, job, found), changed_rows(luck, job, found.rows))
                kept = copy.deepcopy(changed)
                expected = model_wages.is_rule(job, work, patience, changed.fired, changed.rows)
                self.assertIs(changed.shows(job, work, patience), expected)
                self.assertEqual([changed, list(changed.rows)], [kept, list(kept.rows)])
                told[expected] += 1
        self.assertGreater(min(told.values()), 100, told)


def changed_fired(luck, job, found):
    if luck.random() < 0.6:
        return found.fired
    return luck.choice([None] + model_wages.all_fired(job))


def changed_rows(luck, job, rows):
    """The rows in any order, or one changed, one less, one more or two turned."""
    items = [(fired, copy.deepcopy(row)) for fired, row in rows.items()]
    luck.shuffle(items)
    found = dict(items)
    choice = luck.randrange(8)
    one, other = luck.sample(list(found), 2)
    if choice == 0:
        del found[one]
    elif choice == 1:
        found[(len(job.worths),)] = found[one]
    elif choice == 2:
        found[one], found[other] = found[other], found[one]
    elif choice == 3:
        found[one] = luck.choice((Wage(FIVE, None), Wage(ZERO, None), NoWage(None, luck.randrange(len(job)))))
    elif choice == 4 and isinstance(found[one], Wage):
        found[one].wage = changed_number(luck, found[one].wage)
    elif choice == 4:
        found[one].one = luck.randrange(len(job))
    return found


class Objects(unittest.TestCase):
    def test_attributes_and_copies(self):
        rows = {(0,): Wage(ONE, None), (): NoWage(None, 0)}
        found = Rule(fired=(0,), rows=rows)
        self.assertEqual([found.fired, list(found.rows.items())], [(0,), list(rows.items())])
        self.assertTrue(all(found.rows[fired] is rows[fired] for fired in rows))
        found.rows[(1,)] = None
        self.assertEqual(list(rows), [(0,), ()])
        rows.clear()
        self.assertEqual(list(found.rows), [(0,), (), (1,)])

    def test_what_it_holds_is_kept_as_it_is(self):
        things = [1, "a", [2], {3: 4}, None, (5,), JOB, Wage(ONE, None)]
        rows = dict(enumerate(things))
        found = Rule(None, rows)
        self.assertTrue(all(found.rows[k] is thing for k, thing in enumerate(things)))
        self.assertEqual(list(found), list(enumerate(things)))
        self.assertTrue(found == Rule(None, dict(enumerate(things))))
        self.assertTrue(found != Rule(None, {**rows, 0: 2}))

    def test_iteration(self):
        one, other = Wage(ONE, None), NoWage(None, 0)
        found = Rule(None, {(1,): one, (): other})
        for _ in range(2):
            self.assertEqual(list(found), [((1,), one), ((), other)])
        found.rows[(0,)] = one
        self.assertEqual([fired for fired, row in found], [(1,), (), (0,)])
        self.assertEqual(list(Rule(None, {})), [])

    def test_equality(self):
        one, other = Wage(ONE, None), NoWage(None, 0)
        self.assertTrue(Rule((), {(): one, (0,): other}) == Rule((), {(0,): NoWage(None, 0), (): Wage(ONE, None)}))
        self.assertFalse(Rule((), {(): one}) != Rule((), {(): Wage(ONE, None)}))
        for wrong in (Rule(None, {(): one}), Rule((0,), {(): one}), Rule((), {}), Rule((), {(0,): one}),
                      Rule((), {(): other}), Rule((), {(): Wage(ONE, 0)}), Rule((), {(): one, (0,): one})):
            self.assertTrue(Rule((), {(): one}) != wrong)
            self.assertFalse(Rule((), {(): one}) == wrong)

    def test_methods_stand_in_the_class(self):
        for name in ("__init__", "__iter__", "__eq__", "shows"):
            self.assertIn(name, vars(Rule))


class Refusing(unittest.TestCase):
    CALLS = (rule, rule_wage, Rule((0,), {}).shows, Rule(None, {(): Wage(ONE, None)}).shows)

    def check(self, error, call, *arguments):
        with self.assertRaises(error, msg=arguments) as caught:
            call(*arguments)
        self.assertIs(type(caught.exception), error)
        if error is BadJob:
            self.assertIsNone(caught.exception.part)

    def test_wrong_jobs(self):
        for call in self.CALLS:
            for job in anything() + [HALF, rule(JOB, 1, HALF), (JOB.worths, JOB.works)]:
                self.check(BadJob, call, job, 1, HALF)

    def test_wrong_works(self):
        for call in self.CALLS:
            for work in anything() + [2, 3, -2, [1], "1"]:
                self.check(BadWork, call, JOB, work, HALF)

    def test_wrong_patiences(self):
        for call in self.CALLS:
            for patience in wrong_patiences():
                self.check(BadPatience, call, JOB, 1, patience)

    def test_the_first_error_is_raised(self):
        for call in self.CALLS:
            for patience in (HALF, None, ONE, (2, 4), [1, 2]):
                for work in (0, True, -1, None):
                    for job in (None, True, (JOB.worths, JOB.works)):
                        self.check(BadJob, call, job, work, patience)
                for work in (True, False, -1, 2, None, "0", (0,)):
                    self.check(BadWork, call, JOB, work, patience)


if __name__ == "__main__":
    unittest.main()
