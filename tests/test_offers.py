import copy
import unittest
from random import Random

from outcomepay.errors import BadJob, BadOffers, BadWork
from outcomepay.jobs import Job
from outcomepay.seen import Offer, Seen, Unseen, offer, offer_cost, see, seen_cost
from tests import model
from tests.changes import changed_dict, changed_pay
from tests.wrong import WRONG_NUMBERS, anything, wrong_groups

ZERO = (0, 1)
ONE = (1, 1)
FINE = ((0,), (1,), (2,))
FIRST = ((0,), (1, 2))
LAST = ((0, 1), (2,))
MIDDLE = ((0, 2), (1,))
WHOLE = ((0, 1, 2),)
JOB = Job((0, 4, 8), ((0, (2, 1, 1)), (2, (1, 2, 1))))
OFFERS = {FIRST: 0, FINE: 1, LAST: 0}
PAY = (ZERO, (8, 1), ZERO)


def some_offers(luck, job):
    """One to four groups for the job, in any order, often with equal prices."""
    groups = model.all_groups(len(job.worths))
    most = luck.choice((0, 2, 9))
    return {each: luck.randint(0, most) for each in luck.sample(groups, luck.randint(1, min(4, len(groups))))}


def tries(seed, many):
    luck = Random(seed)
    for job in [JOB] + model.some_jobs(seed, many):
        for work in range(len(job)):
            yield job, work, some_offers(luck, job)


class Offering(unittest.TestCase):
    def test_as_the_corners_tell(self):
        told = {"first": 0, "later": 0, "tied": 0, "none": 0, "one": 0, "four": 0}
        for job, work, offers in tries(51, 110):
            costs = model.offer_costs(job, work, offers)
            found = offer(job, work, offers)
            least = min(costs.values(), default=None)
            best = sorted(groups for groups in costs if costs[groups] == least)
            self.assertEqual(found.groups, best[0] if best else None)
            self.assertEqual(offer_cost(job, work, offers), model.pair(least) if best else None)
            for groups, row in found.rows.items():
                self.assertIs(type(row), Seen if groups in costs else Unseen)
            told["none"] += not best
            told["tied"] += len(best) > 1
            told["first"] += bool(best) and best[0] == min(costs)
            told["later"] += bool(best) and best[0] != min(costs)
            told["one"] += len(offers) == 1
            told["four"] += len(offers) == 4
        self.assertGreater(min(told.values()), 10, told)

    def test_what_is_returned_is_shown(self):
        for job, work, offers in tries(52, 150):
            kept = list(offers.items())
            found = offer(job, work, offers)
            self.assertIs(type(found), Offer)
            self.assertIs(found.shows(job, work, offers), True)
            self.assertTrue(model.is_offer(job, work, offers, found.groups, found.rows))
            self.assertEqual(list(found.rows), sorted(offers))
            for groups, row in found:
                self.assertIs(row.shows(job, work, groups), True)
            self.assertEqual(list(offers.items()), kept)

    def test_by_hand(self):
        # The pays cost 4 for all outcomes, 6 if 1 and 2 look the same; 0 and 1 must not look the same.
        self.assertEqual([seen_cost(JOB, 1, groups) for groups in (FINE, FIRST, MIDDLE, LAST, WHOLE)],
                         [(4, 1), (6, 1), (4, 1), None, None])
        found = offer(JOB, 1, OFFERS)
        self.assertEqual([found.groups, offer_cost(JOB, 1, OFFERS)], [FINE, (5, 1)])
        self.assertEqual([(groups, type(row)) for groups, row in found], [(FINE, Seen), (FIRST, Seen), (LAST, Unseen)])
        # Any groups will do for the work without an effort: the cheapest ones.
        self.assertEqual([offer(JOB, 0, OFFERS).groups, offer_cost(JOB, 0, OFFERS)], [FIRST, ZERO])

    def check(self, offers, groups, cost, work=1):
        self.assertEqual([offer(JOB, work, offers).groups, offer_cost(JOB, work, offers)], [groups, cost])

    def test_prices_decide(self):
        self.check({FINE: 0, FIRST: 0}, FINE, (4, 1))
        self.check({FINE: 1, FIRST: 0}, FINE, (5, 1))
        self.check({FINE: 3, FIRST: 0}, FIRST, (6, 1))
        self.check({FINE: 9, FIRST: 9}, FINE, (13, 1))
        self.check({FINE: 9, FIRST: 0, MIDDLE: 3}, FIRST, (6, 1))
        self.check({FINE: 9, FIRST: 0, MIDDLE: 1}, MIDDLE, (5, 1))
        self.check({FINE: 1, LAST: 0}, FINE, (5, 1))

    def test_the_first_of_several(self):
        self.check({FIRST: 0, FINE: 2}, FINE, (6, 1))
        self.check({MIDDLE: 2, FIRST: 0, FINE: 3}, FIRST, (6, 1))
        self.check({MIDDLE: 0, FINE: 0}, FINE, (4, 1))
        self.check({MIDDLE: 5, WHOLE: 5, LAST: 5}, LAST, (5, 1), work=0)
        for groups in (LAST, MIDDLE, WHOLE):
            rows = offer(JOB, 0, {MIDDLE: 5, WHOLE: 5, LAST: 5}).rows
            self.assertTrue(Offer(groups, rows).shows(JOB, 0, {MIDDLE: 5, WHOLE: 5, LAST: 5}))

    def test_all_unseen(self):
        for offers in ({LAST: 0}, {WHOLE: 9}, {WHOLE: 3, LAST: 0}):
            self.check(offers, None, None)
            found = offer(JOB, 1, offers)
            self.assertTrue(found.shows(JOB, 1, offers))
            self.assertEqual({type(row) for groups, row in found}, {Unseen})
            self.assertFalse(Offer(LAST, found.rows).shows(JOB, 1, offers))

    def test_fractions(self):
        job = Job((0, 0), ((1, (1, 1)), (2, (1, 2))))
        fine, whole = ((0,), (1,)), ((0, 1),)
        self.assertEqual([offer_cost(job, work, {fine: 3, whole: 2}) for work in (0, 1)], [(3, 1), (7, 1)])
        job = Job((0, 0), ((0, (1, 2)), (1, (0, 1))))
        self.assertEqual(offer_cost(job, 1, {fine: 3, whole: 2}), (6, 1))
        job = Job((0, 0), ((0, (2, 1)), (1, (1, 5))))
        self.assertEqual(offer_cost(job, 1, {fine: 3, whole: 2}), (14, 3))

    def test_new_each_time(self):
        first = offer(JOB, 1, OFFERS)
        first.rows[FINE].pay = None
        first.rows.clear()
        first.groups = None
        self.assertTrue(offer(JOB, 1, OFFERS).shows(JOB, 1, OFFERS))

    def test_offers_are_not_kept(self):
        offers = dict(OFFERS)
        found = offer(JOB, 1, offers)
        offers.clear()
        self.assertTrue(found.shows(JOB, 1, OFFERS))
        self.assertEqual(found, offer(JOB, 1, OFFERS))


class Showing(unittest.TestCase):
    def setUp(self):
        self.rows = offer(JOB, 1, OFFERS).rows

    def no(self, groups, rows, offers=None, job=JOB, work=1):
        self.assertIs(Offer(groups, rows).shows(job, work, OFFERS if offers is None else offers), False, (groups, rows))

    def yes(self, groups, rows, offers=None, job=JOB, work=1):
        self.assertIs(Offer(groups, rows).shows(job, work, OFFERS if offers is None else offers), True, (groups, rows))

    def test_another_choice(self):
        self.yes(FINE, self.rows)
        for groups in (None, FIRST, LAST, MIDDLE, WHOLE, ((0,), (1,)), ((0,), (1,), (2,), (3,))):
            self.no(groups, self.rows)
        self.no(((False,), (True,), (2,)), self.rows)

    def test_any_order(self):
        for order in ((LAST, FINE, FIRST), (FIRST, LAST, FINE), (LAST, FIRST, FINE)):
            self.yes(FINE, {groups: self.rows[groups] for groups in order})
            self.yes(FINE, self.rows, {groups: OFFERS[groups] for groups in order})

    def test_a_missing_row(self):
        for gone in OFFERS:
            self.no(FINE, {groups: row for groups, row in self.rows.items() if groups != gone})
        self.no(FINE, {})
        self.no(None, {})
        self.no(FINE, self.rows, {**OFFERS, MIDDLE: 9})

    def test_a_further_row(self):
        self.no(FINE, {**self.rows, MIDDLE: see(JOB, 1, MIDDLE)})
        self.no(FINE, {**self.rows, WHOLE: see(JOB, 1, WHOLE)})
        self.no(FINE, {FINE: self.rows[FINE], FIRST: self.rows[FIRST], WHOLE: see(JOB, 1, WHOLE)})
        for gone in OFFERS:
            offers = {groups: price for groups, price in OFFERS.items() if groups != gone}
            self.no(FINE, self.rows, offers)
        self.no(FINE, {**self.rows, ((0,), (1,)): self.rows[FINE]})

    def test_boolean_keys(self):
        rows = {((False,), (1,), (2,)): self.rows[FINE], FIRST: self.rows[FIRST], LAST: self.rows[LAST]}
        self.no(FINE, rows)
        self.no(((False,), (1,), (2,)), rows)

    def test_a_changed_row(self):
        for wrong in (Seen((ZERO, (9, 1), ZERO), {0: (2, 1)}), Seen(PAY[:2], {0: (2, 1)}), Seen(PAY, {0: ONE}),
                      Seen(PAY, {}), Unseen({0: ONE}), self.rows[FIRST], self.rows[LAST]):
            self.no(FINE, {**self.rows, FINE: wrong})
        for wrong in (Unseen({}), Unseen({0: (1, 2)}), Unseen({1: ONE}), self.rows[FINE]):
            self.no(FINE, {**self.rows, LAST: wrong})
        self.no(FINE, {FINE: self.rows[FINE], FIRST: self.rows[LAST], LAST: self.rows[FIRST]})

    def test_another_price_work_or_job(self):
        self.no(FINE, self.rows, {**OFFERS, FINE: 3})
        self.yes(FIRST, self.rows, {**OFFERS, FINE: 3})
        self.yes(FIRST, self.rows, {**OFFERS, FINE: 2})
        self.yes(FINE, self.rows, {**OFFERS, FINE: 2})
        self.no(FINE, self.rows, work=0)
        self.no(FINE, self.rows, job=Job((0, 4, 8), ((0, (2, 1, 1)), (3, (1, 2, 1)))))
        four = Job((0, 0, 0, 0), ((0, (2, 1, 1, 0)), (2, (1, 2, 1, 0))))
        self.no(FINE, self.rows, {FINE + ((3,),): 1, FIRST + ((3,),): 0, LAST + ((3,),): 0}, four)

    def test_current_attributes(self):
        found = offer(JOB, 1, OFFERS)
        found.groups = FIRST
        self.assertFalse(found.shows(JOB, 1, OFFERS))
        self.assertTrue(found != offer(JOB, 1, OFFERS))
        found.groups = FINE
        self.assertTrue(found.shows(JOB, 1, OFFERS))
        found.rows[FIRST].weights[0] = ONE
        self.assertFalse(found.shows(JOB, 1, OFFERS))
        found.rows[FIRST] = see(JOB, 1, FIRST)
        self.assertTrue(found.shows(JOB, 1, OFFERS))
        self.assertTrue(found == offer(JOB, 1, OFFERS))
        found.rows = {}
        self.assertFalse(found.shows(JOB, 1, OFFERS))
        self.assertEqual(list(found), [])

    def test_changes_are_judged_as_the_document_tells(self):
        luck = Random(53)
        told = {True: 0, False: 0}
        for job, work, offers in tries(54, 150):
            found = offer(job, work, offers)
            for _ in range(3):
                changed = Offer(changed_groups(luck, job, found), changed_rows(luck, job, work, found.rows))
                other = {groups: luck.randint(0, 9) if luck.random() < 0.1 else offers[groups] for groups in offers}
                kept = copy.deepcopy(changed)
                expected = model.is_offer(job, work, other, changed.groups, changed.rows)
                self.assertIs(changed.shows(job, work, other), expected)
                self.assertEqual([changed, list(changed.rows)], [kept, list(kept.rows)])
                told[expected] += 1
        self.assertGreater(min(told.values()), 100, told)


class Objects(unittest.TestCase):
    def test_attributes_and_copies(self):
        rows = {FIRST: Unseen({0: ONE}), FINE: Seen(PAY, {})}
        found = Offer(groups=LAST, rows=rows)
        self.assertEqual([found.groups, list(found.rows.items())], [LAST, list(rows.items())])
        self.assertTrue(all(found.rows[groups] is rows[groups] for groups in rows))
        found.rows[LAST] = None
        self.assertEqual(list(rows), [FIRST, FINE])
        rows.clear()
        self.assertEqual(list(found.rows), [FIRST, FINE, LAST])

    def test_what_it_holds_is_kept_as_it_is(self):
        things = [1, "a", [2], {3: 4}, None, (5,), JOB, Seen(PAY, {})]
        rows = dict(enumerate(things))
        found = Offer(None, rows)
        self.assertTrue(all(found.rows[k] is thing for k, thing in enumerate(things)))
        self.assertEqual(list(found), list(enumerate(things)))
        self.assertTrue(found == Offer(None, dict(enumerate(things))))
        self.assertTrue(found != Offer(None, {**rows, 0: 2}))

    def test_iteration(self):
        one, other = Unseen({0: ONE}), Seen(PAY, {})
        found = Offer(None, {LAST: one, FINE: other})
        for _ in range(2):
            self.assertEqual(list(found), [(LAST, one), (FINE, other)])
        found.rows[FIRST] = one
        self.assertEqual([groups for groups, row in found], [LAST, FINE, FIRST])
        self.assertEqual(list(Offer(None, {})), [])

    def test_equality(self):
        one, other = Unseen({0: ONE}), Seen(PAY, {})
        turned = Offer(FINE, {FINE: Seen(PAY, {}), LAST: Unseen({0: ONE})})
        self.assertTrue(Offer(FINE, {LAST: one, FINE: other}) == turned)
        self.assertFalse(Offer(FINE, {LAST: one}) != Offer(FINE, {LAST: Unseen({0: ONE})}))
        for wrong in (Offer(None, {LAST: one}), Offer(LAST, {LAST: one}), Offer(FINE, {}), Offer(FINE, {FINE: one}),
                      Offer(FINE, {LAST: other}), Offer(FINE, {LAST: Unseen({1: ONE})}),
                      Offer(FINE, {LAST: one, FINE: one})):
            self.assertTrue(Offer(FINE, {LAST: one}) != wrong)
            self.assertFalse(Offer(FINE, {LAST: one}) == wrong)

    def test_methods_stand_in_the_class(self):
        for name in ("__init__", "__iter__", "__eq__", "shows"):
            self.assertIn(name, vars(Offer))


class Refusing(unittest.TestCase):
    CALLS = (offer, offer_cost, Offer(FINE, {}).shows, Offer(None, {FINE: Seen((), {})}).shows)

    def check(self, error, call, *arguments):
        with self.assertRaises(error, msg=arguments) as caught:
            call(*arguments)
        if error is BadJob:
            self.assertIsNone(caught.exception.part)

    def test_wrong_jobs(self):
        for call in self.CALLS:
            for job in anything() + [PAY, offer(JOB, 1, OFFERS)]:
                self.check(BadJob, call, job, 1, OFFERS)

    def test_wrong_works(self):
        for call in self.CALLS:
            for work in anything() + [2, 3, -2, [1], "1"]:
                self.check(BadWork, call, JOB, work, OFFERS)

    def test_offers_of_another_kind_or_number(self):
        five = {groups: 0 for groups in model.all_groups(3)}
        self.assertEqual(len(five), 5)
        wrong = anything() + [five, {**five, LAST: 10}, list(OFFERS), list(OFFERS.items()), tuple(OFFERS.items()), FINE]
        for call in self.CALLS:
            for offers in wrong:
                self.check(BadOffers, call, JOB, 1, offers)
        four = dict(list(five.items())[1:])
        self.assertTrue(offer(JOB, 1, four).shows(JOB, 1, four))
        one = {MIDDLE: 9}
        self.assertEqual(offer_cost(JOB, 1, one), (13, 1))

    def test_wrong_prices(self):
        for price in WRONG_NUMBERS + (-1, 10, 10 ** 40, (1, 1), (0, 1)):
            for offers in ({FINE: price}, {FINE: 0, FIRST: price}, {FINE: price, FIRST: 0}):
                for call in self.CALLS:
                    self.check(BadOffers, call, JOB, 1, offers)
        for price in (0, 9):
            self.assertEqual(offer_cost(JOB, 1, {FINE: price}), (4 + price, 1))

    def test_wrong_groups_as_keys(self):
        two, four = Job((0, 0), ((0, (1, 0)), (1, (0, 1)))), Job((0,) * 4, ((0, (1, 0, 0, 0)), (1, (0, 1, 0, 0))))
        for job in (two, JOB, four):
            fine = tuple((outcome,) for outcome in range(len(job.worths)))
            for groups in wrong_groups(len(job.worths)):
                try:
                    hash(groups)
                except TypeError:
                    continue
                for call in self.CALLS:
                    self.check(BadOffers, call, job, 1, {groups: 0})
                    if groups != fine:
                        self.check(BadOffers, call, job, 1, {fine: 0, groups: 0})

    def test_refused_offers_are_left_as_they_are(self):
        offers = {FINE: 0, FIRST: 10, None: [1]}
        self.check(BadOffers, offer, JOB, 1, offers)
        self.assertEqual(list(offers.items()), [(FINE, 0), (FIRST, 10), (None, [1])])

    def test_the_first_error_is_raised(self):
        for call in self.CALLS:
            for job in (None, True, (JOB.worths, JOB.works)):
                for work in (0, True, -1, None):
                    for offers in (OFFERS, None, {}, {FINE: 10}):
                        self.check(BadJob, call, job, work, offers)
            for work in (True, False, -1, 2, None, "0", (0,)):
                for offers in (OFFERS, None, {}, {FINE: 10}, {FINE[1:]: 0}):
                    self.check(BadWork, call, JOB, work, offers)


def changed_groups(luck, job, found):
    if luck.random() < 0.6:
        return found.groups
    return luck.choice([None] + list(found.rows) + model.all_groups(len(job.worths)))


def changed_rows(luck, job, work, rows):
    """The rows in any order, or with one more, one less, or one that is changed."""
    items = [(groups, copy.deepcopy(row)) for groups, row in rows.items()]
    luck.shuffle(items)
    found = dict(items)
    choice = luck.randrange(8)
    groups = luck.choice(list(found))
    if choice == 0:
        del found[groups]
    elif choice == 1:
        further = luck.choice(model.all_groups(len(job.worths)))
        found[further] = see(job, work, further)
    elif choice == 2:
        found[groups] = found[luck.choice(list(found))]
    elif choice == 3:
        found[groups] = luck.choice((Unseen({luck.randrange(len(job)): ONE}), Seen(model.some_pay(luck, job), {})))
    elif choice > 4 and isinstance(found[groups], Unseen):
        found[groups] = Unseen(changed_dict(luck, job, found[groups].mix, False))
    elif choice > 4:
        found[groups] = Seen(changed_pay(luck, found[groups].pay), changed_dict(luck, job, found[groups].weights, True))
    return found


if __name__ == "__main__":
    unittest.main()
