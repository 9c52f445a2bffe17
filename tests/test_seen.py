import copy
import unittest
from random import Random

from outcomepay.errors import BadGroups, BadJob, BadWork
from outcomepay.jobs import Job
from outcomepay.pays import Barred, least_pay, pay_cost
from outcomepay.seen import Seen, Unseen, see, seen_cost
from tests import model
from tests.changes import changed_dict, changed_pay
from tests.wrong import anything, wrong_groups

ZERO = (0, 1)
ONE = (1, 1)
FINE = ((0,), (1,), (2,))
FIRST = ((0,), (1, 2))
LAST = ((0, 1), (2,))
MIDDLE = ((0, 2), (1,))
WHOLE = ((0, 1, 2),)
JOB = Job((0, 4, 8), ((0, (2, 1, 1)), (2, (1, 2, 1))))
PAY = (ZERO, (8, 1), ZERO)
MIXED = Job((0, 5, 9), ((3, (1, 2, 1)), (1, (1, 1, 0)), (2, (0, 1, 1))))
HALVES = {1: (1, 2), 2: (1, 2)}
FOUR = Job((0, 0, 0, 0), ((9, (6, 5, 4, 3)), (8, (3, 4, 5, 6)), (7, (1, 6, 1, 6)), (6, (6, 1, 6, 1))))


def tries(seed, many, most=3):
    """Jobs with all works, each with some of all groups."""
    luck = Random(seed)
    for job in [JOB, MIXED, FOUR] + model.some_jobs(seed, many):
        groups = model.all_groups(len(job.worths))
        for work in range(len(job)):
            for each in luck.sample(groups, min(most, len(groups))):
                yield job, work, each


class Seeing(unittest.TestCase):
    def test_as_the_corners_tell(self):
        told = {Seen: 0, Unseen: 0}
        for job, work, groups in tries(41, 130, 4):
            cost = model.least_average(job, work, groups)
            found = see(job, work, groups)
            self.assertIs(type(found), Unseen if cost is None else Seen)
            self.assertEqual(seen_cost(job, work, groups), None if cost is None else model.pair(cost))
            if cost is not None:
                self.assertEqual(model.average(job, work, found.pay), cost)
            told[type(found)] += 1
        self.assertGreater(min(told.values()), 100, told)

    def test_what_is_returned_is_shown(self):
        for job, work, groups in tries(42, 200):
            found = see(job, work, groups)
            self.assertIs(found.shows(job, work, groups), True)
            if isinstance(found, Seen):
                self.assertIs(type(found.pay), tuple)
                self.assertTrue(model.is_enough(job, work, groups, found.pay, found.weights))
                for group in groups:
                    self.assertEqual(len({found.pay[outcome] for outcome in group}), 1)
            else:
                self.assertTrue(model.is_barred(job, work, groups, found.mix))

    def test_groups_of_one_outcome_each_are_as_no_groups(self):
        for job in [JOB, MIXED, FOUR] + model.some_jobs(43, 100):
            fine = tuple((outcome,) for outcome in range(len(job.worths)))
            for work in range(len(job)):
                self.assertEqual(seen_cost(job, work, fine), pay_cost(job, work))
                found, least = see(job, work, fine), least_pay(job, work)
                self.assertEqual(isinstance(found, Unseen), isinstance(least, Barred))

    def test_one_group_shows_nothing(self):
        for job in [JOB, MIXED, FOUR] + model.some_jobs(44, 100):
            whole = (tuple(range(len(job.worths))),)
            least = min(effort for effort, parts in job.works)
            for work, (effort, parts) in enumerate(job.works):
                self.assertEqual(seen_cost(job, work, whole), (effort, 1) if effort == least else None)

    def test_by_hand(self):
        # Done rather than the work 0, outcome 1 is likelier by 1/4, outcome 0 less likely by 1/4.
        self.assertEqual([seen_cost(JOB, 1, groups) for groups in (FINE, FIRST, MIDDLE, LAST, WHOLE)],
                         [(4, 1), (6, 1), (4, 1), None, None])
        self.assertEqual([see(JOB, 1, FINE).pay, see(JOB, 1, FIRST).pay], [PAY, (ZERO, (8, 1), (8, 1))])
        self.assertEqual([see(JOB, 1, LAST).mix, see(JOB, 1, WHOLE).mix], [{0: ONE}, {0: ONE}])
        self.assertEqual([seen_cost(JOB, 0, groups) for groups in (FINE, FIRST, MIDDLE, LAST, WHOLE)], [ZERO] * 5)
        # The works 1 and 2 in turn bring each outcome as often as the work 0: no groups tell them apart.
        self.assertEqual([seen_cost(MIXED, 0, groups) for groups in (FINE, FIRST, MIDDLE, LAST, WHOLE)], [None] * 5)
        self.assertEqual(see(MIXED, 0, FINE).mix, HALVES)

    def test_new_each_time(self):
        first = see(JOB, 1, FINE)
        first.weights.clear()
        first.pay = None
        self.assertTrue(see(JOB, 1, FINE).shows(JOB, 1, FINE))
        barred = see(JOB, 1, LAST)
        barred.mix[0] = ZERO
        self.assertTrue(see(JOB, 1, LAST).shows(JOB, 1, LAST))


class Objects(unittest.TestCase):
    def test_attributes_and_copies(self):
        weights = {None: ONE, 0: (1, 2)}
        seen = Seen(pay=PAY, weights=weights)
        self.assertEqual([seen.pay, list(seen.weights.items())], [PAY, [(None, ONE), (0, (1, 2))]])
        seen.weights[1] = ONE
        self.assertEqual(weights, {None: ONE, 0: (1, 2)})
        weights.clear()
        self.assertEqual(len(seen.weights), 3)
        mix = {2: (1, 2), 1: (1, 2)}
        unseen = Unseen(mix=mix)
        mix.clear()
        self.assertEqual(list(unseen.mix.items()), [(2, (1, 2)), (1, (1, 2))])
        unseen.mix.clear()
        self.assertEqual(mix, {})

    def test_iteration(self):
        unseen = Unseen({2: (1, 3), 0: (2, 3)})
        for _ in range(2):
            self.assertEqual(list(unseen), [(2, (1, 3)), (0, (2, 3))])
        unseen.mix[1] = ZERO
        self.assertEqual([work for work, part in unseen], [2, 0, 1])
        self.assertEqual(list(Unseen({})), [])

    def test_equality(self):
        self.assertTrue(Seen(PAY, {0: ONE, 1: ZERO}) == Seen(PAY, {1: ZERO, 0: ONE}))
        self.assertFalse(Seen(PAY, {0: ONE}) != Seen(PAY, {0: ONE}))
        for other in (Seen(PAY[:2], {0: ONE}), Seen(PAY, {}), Seen(PAY, {0: ZERO}), Seen(PAY, {1: ONE})):
            self.assertTrue(Seen(PAY, {0: ONE}) != other)
            self.assertFalse(Seen(PAY, {0: ONE}) == other)
        self.assertTrue(Unseen({0: ONE, 1: ZERO}) == Unseen({1: ZERO, 0: ONE}))
        self.assertTrue(Unseen({0: ONE}) != Unseen({1: ONE}))
        self.assertFalse(Unseen({0: ONE}) == Unseen({0: ONE, 1: ZERO}))

    def test_methods_stand_in_the_classes(self):
        for name in ("__init__", "__eq__", "shows"):
            self.assertIn(name, vars(Seen))
            self.assertIn(name, vars(Unseen))
        self.assertIn("__iter__", vars(Unseen))


class SeenShows(unittest.TestCase):
    def no(self, pay, weights, groups=FINE, job=JOB, work=1):
        self.assertIs(Seen(pay, weights).shows(job, work, groups), False, (pay, weights, groups))

    def yes(self, pay, weights, groups=FINE, job=JOB, work=1):
        self.assertIs(Seen(pay, weights).shows(job, work, groups), True, (pay, weights, groups))

    def test_the_least_pay(self):
        self.yes(PAY, {0: (2, 1)})
        self.yes(PAY, {None: ZERO, 0: (2, 1)})
        self.yes(PAY, {0: (2, 1), None: ZERO})
        self.yes(PAY, {0: (2, 1)}, MIDDLE)
        self.yes((ZERO, (8, 1), (8, 1)), {0: (3, 1)}, FIRST)

    def test_a_pay_that_does_not_hang_on_groups_alone(self):
        # The least pay of all, with weights that would show it: but outcomes 1 and 2 look the same.
        self.no(PAY, {0: (2, 1)}, FIRST)
        self.no(PAY, {0: (2, 1)}, LAST)
        self.no(PAY, {0: (2, 1)}, WHOLE)
        # The averages are the same, and groups have the same on average, but not for each outcome.
        job = Job((0, 0, 0), ((2, (1, 1, 1)), (3, (1, 1, 1))))
        self.yes(((2, 1), (2, 1), (2, 1)), {None: ONE}, FIRST, job, 0)
        self.no(((2, 1), ONE, (3, 1)), {None: ONE}, FIRST, job, 0)
        self.yes(((2, 1), ONE, (3, 1)), {None: ONE}, FINE, job, 0)
        self.no((ONE, (2, 1), (3, 1)), {None: ONE}, WHOLE, job, 0)
        self.no((ONE, (3, 1), (2, 1)), {None: ONE}, MIDDLE, job, 0)

    def test_changed_pays(self):
        for pay in ((ZERO, (9, 1), ZERO), (ZERO, (7, 1), ZERO), (ZERO, ZERO, ZERO), (ONE, (9, 1), ONE),
                    (ONE, (8, 1), ZERO), ((-1, 1), (8, 1), ZERO), ((-1, 1), (17, 2), ZERO), (ZERO, (8, 1), (-1, 1)),
                    (ZERO, (9, 1), (-2, 1))):
            self.no(pay, {0: (2, 1)})
        for pay in ((), PAY[:2], PAY[1:], PAY + (ZERO,), PAY[:1] + PAY):
            self.no(pay, {0: (2, 1)})

    def test_changed_weights(self):
        for weights in ({}, {0: ONE}, {0: (3, 1)}, {0: (9, 4)}, {None: (2, 1)}, {0: ONE, None: ONE},
                        {0: (3, 1), None: (-1, 1)}, {0: (-2, 1), None: (4, 1)}):
            self.no(PAY, weights)
        # For groups in which chances are added, these weights are too great, or too small.
        self.no((ZERO, (8, 1), (8, 1)), {0: (2, 1)}, FIRST)
        self.no((ZERO, (8, 1), (8, 1)), {0: (4, 1)}, FIRST)
        self.no((ZERO, (8, 1), (8, 1)), {0: (3, 1)}, FINE)

    def test_keys_that_are_no_other_choices(self):
        for other in (1, 2, -1, -2, 10 ** 30, -10 ** 30):
            self.no(PAY, {0: (2, 1), other: ZERO})
            self.no(PAY, {other: (2, 1)})
        self.no(PAY, {False: (2, 1)})
        self.no(PAY, {0: (2, 1), True: ZERO})

    def test_another_job_work_or_groups(self):
        for job in (Job((0, 4, 8), ((0, (2, 1, 1)), (3, (1, 2, 1)))), Job((0, 4, 8), ((0, (2, 1, 1)), (2, (1, 3, 1)))),
                    Job((0, 4, 8), (JOB.works[1], JOB.works[0])), Job((0, 4, 8), ((1, (2, 1, 1)), (2, (1, 2, 1))))):
            self.no(PAY, {0: (2, 1)}, job=job)
        self.yes(PAY, {0: (2, 1)}, job=Job((7, 7, 7), JOB.works))
        self.no(PAY, {0: (2, 1)}, work=0)
        for groups in (FIRST, LAST, WHOLE):
            self.no(PAY, {0: (2, 1)}, groups)
        self.no(PAY, {0: (2, 1)}, ((0,), (1,), (2,), (3,)), FOUR)

    def test_current_attributes(self):
        seen = Seen(PAY, {0: (2, 1)})
        seen.weights[0] = ONE
        self.assertFalse(seen.shows(JOB, 1, FINE))
        seen.weights = {0: (2, 1)}
        self.assertTrue(seen.shows(JOB, 1, FINE))
        seen.pay = (ZERO, (9, 1), ZERO)
        self.assertFalse(seen.shows(JOB, 1, FINE))
        self.assertTrue(seen == Seen((ZERO, (9, 1), ZERO), {0: (2, 1)}))

    def test_changes_are_judged_as_the_document_tells(self):
        luck = Random(45)
        told = {True: 0, False: 0}
        for job, work, groups in tries(46, 150):
            found = see(job, work, groups)
            if isinstance(found, Unseen):
                found = Seen(model.some_pay(luck, job), {None: ONE})
            for _ in range(4):
                changed = Seen(changed_pay(luck, found.pay), changed_dict(luck, job, found.weights, True))
                other = groups if luck.random() < 0.8 else luck.choice(model.all_groups(len(job.worths)))
                kept = copy.deepcopy(changed)
                expected = model.is_enough(job, work, other, changed.pay, changed.weights)
                self.assertIs(changed.shows(job, work, other), expected)
                self.assertEqual([changed, list(changed.weights)], [kept, list(kept.weights)])
                told[expected] += 1
        self.assertGreater(min(told.values()), 100, told)


class UnseenShows(unittest.TestCase):
    def no(self, mix, groups=LAST, job=JOB, work=1):
        self.assertIs(Unseen(mix).shows(job, work, groups), False, (mix, groups))

    def yes(self, mix, groups=LAST, job=JOB, work=1):
        self.assertIs(Unseen(mix).shows(job, work, groups), True, (mix, groups))

    def test_a_mix_that_bars(self):
        self.yes({0: ONE})
        self.yes({0: ONE}, WHOLE)
        for groups in (FINE, FIRST, MIDDLE, LAST, WHOLE):
            self.yes(HALVES, groups, MIXED, 0)
            self.yes({2: (1, 2), 1: (1, 2)}, groups, MIXED, 0)
        # Outcomes 0 and 2 are alike for the payer: the work 2 alone brings what the work 0 brings.
        self.yes({2: ONE, 1: ZERO}, MIDDLE, MIXED, 0)

    def test_groups_that_show_the_work(self):
        for groups in (FINE, FIRST, MIDDLE):
            self.no({0: ONE}, groups)
        self.no({2: ONE}, FINE, MIXED, 0)
        self.no({2: ONE}, MIDDLE, Job((0, 5, 9), ((3, (1, 2, 1)), (1, (1, 1, 0)), (2, (0, 2, 3)))), 0)

    def test_changed_mixes(self):
        for mix in ({}, {0: ZERO}, {0: (1, 2)}, {0: (2, 1)}, {0: (-1, 1)}):
            self.no(mix)
        self.no({1: (1, 3), 2: (2, 3)}, FINE, MIXED, 0)
        self.no({1: (3, 2), 2: (-1, 2)}, WHOLE, MIXED, 0)
        self.no({1: (1, 2), 2: (1, 4)}, WHOLE, MIXED, 0)
        self.no({1: ONE, 2: ONE}, WHOLE, MIXED, 0)

    def test_keys_that_are_no_other_works(self):
        for other in (1, 2, -1, -2, 10 ** 30, -10 ** 30):
            self.no({0: ONE, other: ZERO})
            self.no({other: ONE})
        self.no({False: ONE})
        self.no({None: ZERO, 0: ONE})

    def test_another_job_work_or_groups(self):
        self.no({0: ONE}, work=0)
        self.no({0: ONE}, job=Job((0, 4, 8), ((2, (2, 1, 1)), (2, (1, 2, 1)))))
        self.no({0: ONE}, job=Job((0, 4, 8), ((0, (2, 2, 1)), (2, (1, 2, 1)))))
        self.no({0: ONE}, job=Job((0, 4), ((0, (2, 1)), (2, (1, 1)))), groups=((0,), (1,)))
        self.yes({0: ONE}, job=Job((0, 4), ((0, (2, 1)), (2, (1, 1)))), groups=((0, 1),))

    def test_current_attributes(self):
        unseen = Unseen({0: ONE})
        unseen.mix[0] = ZERO
        self.assertFalse(unseen.shows(JOB, 1, LAST))
        unseen.mix = {0: ONE}
        self.assertTrue(unseen.shows(JOB, 1, LAST))

    def test_changes_are_judged_as_the_document_tells(self):
        luck = Random(47)
        told = {True: 0, False: 0}
        for job, work, groups in tries(48, 150):
            found = see(job, work, groups)
            mix = found.mix if isinstance(found, Unseen) else {luck.randrange(len(job)): ONE}
            for _ in range(4):
                changed = Unseen(changed_dict(luck, job, mix, False))
                other = groups if luck.random() < 0.8 else luck.choice(model.all_groups(len(job.worths)))
                kept = list(changed.mix.items())
                expected = model.is_barred(job, work, other, changed.mix)
                self.assertIs(changed.shows(job, work, other), expected)
                self.assertEqual(list(changed.mix.items()), kept)
                told[expected] += 1
        self.assertGreater(min(told.values()), 100, told)


class Refusing(unittest.TestCase):
    CALLS = (see, seen_cost, Seen(PAY, {0: (2, 1)}).shows, Seen((), {}).shows, Unseen({0: ONE}).shows, Unseen({}).shows)

    def check(self, error, call, *arguments):
        with self.assertRaises(error, msg=arguments) as caught:
            call(*arguments)
        if error is BadJob:
            self.assertIsNone(caught.exception.part)

    def test_wrong_jobs(self):
        for call in self.CALLS:
            for job in anything() + [PAY, see(JOB, 1, FINE)]:
                self.check(BadJob, call, job, 1, FINE)

    def test_wrong_works(self):
        for call in self.CALLS:
            for work in anything() + [2, 3, -2, [1], "1"]:
                self.check(BadWork, call, JOB, work, FINE)

    def test_wrong_groups(self):
        two, four = Job((0, 0), ((0, (1, 0)), (1, (0, 1)))), FOUR
        for job in (two, JOB, four):
            for groups in wrong_groups(len(job.worths)):
                for call in (see, Seen(PAY, {0: (2, 1)}).shows, Unseen({0: ONE}).shows):
                    self.check(BadGroups, call, job, 1, groups)
                self.check(BadGroups, seen_cost, job, 0, groups)
        for job in (two, JOB, four):
            for other in (two, JOB, four):
                if job != other:
                    for groups in model.all_groups(len(other.worths)):
                        self.check(BadGroups, see, job, 0, groups)

    def test_all_groups_are_allowed(self):
        for job in (Job((0, 0), ((0, (1, 0)), (1, (0, 1)))), JOB, FOUR):
            found = model.all_groups(len(job.worths))
            self.assertEqual(len(found), {2: 2, 3: 5, 4: 15}[len(job.worths)])
            for groups in found:
                self.assertTrue(see(job, 0, groups).shows(job, 0, groups))

    def test_the_first_error_is_raised(self):
        for call in self.CALLS:
            for job in (None, True, (JOB.worths, JOB.works)):
                for work in (0, True, -1, None):
                    for groups in (FINE, None, (), list(FINE)):
                        self.check(BadJob, call, job, work, groups)
            for work in (True, False, -1, 2, None, "0", (0,)):
                for groups in (FINE, None, (), list(FINE), FINE[1:], ((False,), (1,), (2,))):
                    self.check(BadWork, call, JOB, work, groups)


if __name__ == "__main__":
    unittest.main()
