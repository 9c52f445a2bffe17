import unittest
from fractions import Fraction
from random import Random

from outcomepay.errors import BadJob, BadShare
from outcomepay.jobs import Job, wanted
from outcomepay.shares import best_share, done, turns
from tests import model
from tests.wrong import anything

ZERO = (0, 1)
ONE = (1, 1)
HALF = (1, 2)
JOB = Job((0, 10), ((0, (3, 1)), (2, (1, 1)), (5, (1, 3))))
RICH = Job((0, 20), ((0, (1, 0)), (2, (1, 1)), (3, (1, 3))))
LAST = Job((0, 4), ((0, (1, 1)), (1, (1, 3))))
THREE = Job((0, 4, 8, 12), ((1, (0, 1, 0, 0)), (2, (0, 0, 1, 0)), (3, (0, 0, 0, 1))))
STEPS = Job((4, 8, 12, 15), ((1, (1, 0, 0, 0)), (3, (0, 1, 0, 0)), (6, (0, 0, 1, 0)), (9, (0, 0, 0, 1))))
EDGES = [
    JOB, RICH, LAST,
    Job((0, 0), ((0, (1, 0)), (0, (0, 1)))),
    Job((0, 0), ((3, (1, 0)), (9, (0, 1)))),
    Job((20, 20), ((9, (1, 0)), (9, (0, 1)), (9, (1, 1)), (8, (1, 1)))),
    Job((0, 20, 10), ((1, (1, 1, 0)), (1, (0, 0, 1)), (1, (0, 1, 0)))),
    THREE, STEPS,
]


def tries(seed, many):
    return EDGES + [each for job in model.some_jobs(seed, many) for each in (job, model.poorer(job))]


class Turns(unittest.TestCase):
    def test_against_the_works_done_at_many_shares(self):
        told = {}
        for job in tries(31, 300):
            found = turns(job)
            for share in model.share_crossings(job):
                work = [work for turn, work in found if model.exact(turn) <= share][-1]
                self.assertEqual(work, model.share_choice(job, share), (job.worths, job.works, share))
            told[len(found)] = told.get(len(found), 0) + 1
        self.assertGreater(min(told.get(many, 0) for many in (1, 2, 3)), 20, told)
        self.assertIn(5, told)

    def test_form(self):
        for job in tries(32, 300):
            found = turns(job)
            self.assertIs(type(found), list)
            shares = [model.exact(share) for share, work in found]
            works = [work for share, work in found]
            self.assertEqual([type(turn) for turn in found], [tuple] * len(found))
            self.assertEqual([share for share, work in found], [model.pair(share) for share in shares])
            self.assertEqual(shares[0], 0)
            self.assertLessEqual(shares[-1], 1)
            self.assertTrue(all(a < b for a, b in zip(shares, shares[1:])))
            self.assertTrue(all(a != b for a, b in zip(works, works[1:])))
            worths = [model.worth(job, work) for work in works]
            self.assertEqual(worths, sorted(worths))

    def test_by_hand(self):
        # Worth 5/2, 5, 15/2 for 0, 2, 5: from 4/5 on, 2 is worth 5/2 more; from 6/5 on, 3 would be.
        self.assertEqual(turns(JOB), [(ZERO, 0), ((4, 5), 1)])
        # Worth 0, 10, 15 for 0, 2, 3: all meet at 1/5, the last one has the greatest worth.
        self.assertEqual(turns(RICH), [(ZERO, None), ((1, 5), 2)])
        # Worth 4, 8, 12, 15 for 1, 3, 6, 9: one after the other.
        self.assertEqual(turns(STEPS), [(ZERO, None), ((1, 4), 0), (HALF, 1), ((3, 4), 2), (ONE, 3)])
        # Worth 4, 8, 20 for 1, 3, 9: the second work never gains more than both others.
        skipped = Job((0, 4, 8, 20), ((1, (0, 1, 0, 0)), (3, (0, 0, 1, 0)), (9, (0, 0, 0, 1)), (0, (1, 0, 0, 0))))
        self.assertEqual(turns(skipped), [(ZERO, None), ((1, 4), 0), (HALF, 2)])

    def test_a_turn_at_share_one(self):
        # Worth 2 and 3 for 0 and 1: they meet only at 1.
        self.assertEqual(turns(LAST), [(ZERO, 0), (ONE, 1)])
        self.assertEqual([done(LAST, (99, 100)), done(LAST, ONE)], [0, 1])
        later = Job((0, 4), ((0, (1, 1)), (2, (1, 3))))
        self.assertEqual(turns(later), [(ZERO, 0)])

    def test_several_works_at_one_share(self):
        # All meet at 1/4: one turn, to the one with the greatest average worth.
        self.assertEqual(turns(THREE), [(ZERO, None), ((1, 4), 2)])
        self.assertEqual(wanted(THREE, (ZERO, ONE, (2, 1), (3, 1))), [None, 0, 1, 2])

    def test_two_three_and_four_works_and_outcomes(self):
        sizes = {(len(job), len(job.worths)) for job in tries(31, 300)}
        self.assertEqual(sizes, {(works, outcomes) for works in (2, 3, 4) for outcomes in (2, 3, 4)})

    def test_lists_are_new(self):
        first = turns(JOB)
        first.clear()
        self.assertEqual(turns(JOB), [(ZERO, 0), ((4, 5), 1)])


class Done(unittest.TestCase):
    def test_as_found_in_another_way(self):
        luck = Random(33)
        for job in tries(34, 150):
            shares = [luck.choice(model.share_crossings(job)) for _ in range(4)]
            shares += [Fraction(luck.randint(0, 12), 12), Fraction(0), Fraction(1)]
            for share in shares:
                work = done(job, model.pair(share))
                self.assertEqual(work, model.share_choice(job, share))
                pay = tuple(model.pair(share * worth) for worth in job.worths)
                self.assertIn(work, wanted(job, pay))

    def test_ties_in_gain(self):
        self.assertEqual([done(RICH, share) for share in ((1, 6), (1, 5), (1, 4))], [None, 2, 2])
        self.assertEqual([done(JOB, share) for share in ((3, 4), (4, 5), (5, 6), ONE)], [0, 1, 1, 1])

    def test_ties_in_average_worth(self):
        # Works 1 and 2 are worth 10 each, work 0 less: the first of them.
        job = Job((0, 20, 10), ((1, (3, 1, 0)), (1, (1, 1, 0)), (1, (0, 0, 1))))
        self.assertEqual([done(job, share) for share in (ZERO, (1, 11), (1, 10), ONE)], [None, None, 1, 1])
        self.assertEqual(done(Job(job.worths, job.works[::-1]), ONE), 0)
        self.assertEqual(turns(job), [(ZERO, None), ((1, 10), 1)])

    def test_no_work_is_before_works_without_worth(self):
        idle = Job((0, 20), ((0, (1, 0)), (0, (1, 0))))
        for share in (ZERO, HALF, ONE):
            self.assertIsNone(done(idle, share))
        self.assertEqual([turns(idle), best_share(idle)], [[(ZERO, None)], (ZERO, ZERO)])

    def test_works_with_worth_are_before_no_work(self):
        # At share 0 all works without an effort gain 0, like no work: the one with the greatest worth.
        job = Job((0, 20), ((0, (1, 0)), (0, (2, 1)), (0, (1, 1)), (0, (2, 2))))
        self.assertEqual([done(job, ZERO), turns(job)], [2, [(ZERO, 2)]])
        # At 1/2, it gains 1 with an effort of 1: no work gains as much, but is worth less.
        even = Job((2, 2), ((1, (1, 1)), (1, (1, 3))))
        self.assertEqual([done(even, (49, 99)), done(even, HALF)], [None, 0])

    def test_shares_zero_and_one(self):
        self.assertEqual([done(JOB, ZERO), done(JOB, ONE), done(RICH, ZERO), done(RICH, ONE)], [0, 1, None, 2])

    def test_long_numbers(self):
        long = 10 ** 3900
        self.assertEqual(done(JOB, (4 * long - 1, 5 * long)), 0)
        self.assertEqual(done(JOB, (4 * long + 1, 5 * long)), 1)


class BestShare(unittest.TestCase):
    def test_as_found_in_another_way(self):
        told = {"zero": 0, "later": 0, "nothing": 0}
        for job in tries(35, 300):
            kept = {share: (1 - share) * model.worth(job, model.share_choice(job, share))
                    for share in model.share_crossings(job)}
            most = max(kept.values())
            share = min(share for share in kept if kept[share] == most)
            self.assertEqual(best_share(job), (model.pair(share), model.pair(most)))
            self.assertIs(type(best_share(job)), tuple)
            told["nothing" if most == 0 else "zero" if share == 0 else "later"] += 1
        self.assertGreater(min(told.values()), 20, told)

    def test_by_hand(self):
        # 5/2 is kept from share 0 on, 1/5 of 5 from 4/5 on.
        self.assertEqual(best_share(JOB), (ZERO, (5, 2)))
        self.assertEqual(best_share(RICH), ((1, 5), (12, 1)))

    def test_several_best_shares(self):
        # Worth 10 at share 0, and 20 at 1/2, where 10 are left: the lesser share.
        tied = Job((0, 10, 20), ((0, (0, 1, 0)), (5, (0, 0, 1))))
        self.assertEqual([turns(tied), best_share(tied)], [[(ZERO, 0), (HALF, 1)], (ZERO, (10, 1))])
        # Nothing at 0, then 3/4 of 4 at 1/4 and 1/2 of 6 at 1/2, then nothing of 7 at 1.
        later = Job((4, 6, 7), ((1, (1, 0, 0)), (2, (0, 1, 0)), (3, (0, 0, 1))))
        self.assertEqual(turns(later), [(ZERO, None), ((1, 4), 0), (HALF, 1), (ONE, 2)])
        self.assertEqual(best_share(later), ((1, 4), (3, 1)))

    def test_the_first_share_is_not_always_the_best(self):
        both = Job((0, 5, 10), ((0, (0, 1, 0)), (2, (0, 0, 1))))
        self.assertEqual([turns(both), best_share(both)], [[(ZERO, 0), ((2, 5), 1)], ((2, 5), (6, 1))])
        self.assertEqual(best_share(STEPS), (HALF, (4, 1)))

    def test_nothing_to_keep(self):
        self.assertEqual(best_share(EDGES[3]), (ZERO, ZERO))
        # Nothing is done up to share 1, and then nothing is kept.
        late = Job((2, 2), ((2, (1, 1)), (3, (1, 1))))
        self.assertEqual([turns(late), best_share(late)], [[(ZERO, None), (ONE, 0)], (ZERO, ZERO)])


class Refusing(unittest.TestCase):
    def check(self, error, call, *arguments):
        with self.assertRaises(error, msg=arguments) as caught:
            call(*arguments)
        if error is BadJob:
            self.assertIsNone(caught.exception.part)

    def test_wrong_jobs(self):
        for job in anything() + [(JOB.worths, JOB.works)]:
            self.check(BadJob, turns, job)
            self.check(BadJob, best_share, job)
            self.check(BadJob, done, job, HALF)

    def test_wrong_shares(self):
        wrong = [thing for thing in anything() if thing != (0, 1) or not isinstance(thing, tuple)]
        wrong += [
            (-1, 2), (-1, 1), (-1, 10 ** 40), (3, 2), (2, 1), (10 ** 40 + 1, 10 ** 40), (2, 4), (0, 2), (2, 2), (3, 3),
            [1, 2], [0, 1], (True, 2), (1, True), (False, 1), (True, True), (1,), (1, 2, 3), (0, 1, 1), (1, 0), (0, 0),
            (0, -1), (1, -2), (-1, -2), ("1", 2), (1, "2"), (None, 1), (1, None), 0, 1, "12", {1: 2}, ((1, 2),),
        ]
        for share in wrong:
            self.check(BadShare, done, JOB, share)

    def test_limits_are_allowed(self):
        for share in (ZERO, ONE, (1, 10 ** 40), (10 ** 40 - 1, 10 ** 40)):
            self.assertIn(done(JOB, share), (0, 1))

    def test_the_first_error_is_raised(self):
        for job in (None, True, (JOB.worths, JOB.works)):
            for share in (HALF, None, (3, 2), (2, 4), [1, 2], True):
                self.check(BadJob, done, job, share)


if __name__ == "__main__":
    unittest.main()
