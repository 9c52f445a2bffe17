"""What holds together: for the same job in another order, twice as great, or without a work, and between the parts."""

import unittest
from random import Random

from outcomepay.choices import Best, best_profit, choose
from outcomepay.jobs import Job, gain, profit, wanted
from outcomepay.menus import Menu, NoMenu, best_wish, menu, menu_cost
from outcomepay.pays import Barred, Enough, least_pay, pay_cost
from outcomepay.seen import Offer, Seen, Unseen, offer, offer_cost, see, seen_cost
from outcomepay.sessions import Session
from outcomepay.shares import best_share, done, turns
from outcomepay.texts import job_text, pay_text, read_job, read_pay
from outcomepay.wages import NoWage, Rule, Wage, least_wage, rule, rule_wage, wage
from tests import model, model_menus, model_wages

HALF = (1, 2)
FIXED = [
    Job((0, 4, 8), ((0, (2, 1, 1)), (2, (1, 2, 1)))),
    Job((0, 5, 9), ((3, (1, 2, 1)), (1, (1, 1, 0)), (2, (0, 1, 1)))),
    Job((0, 0, 0, 0), ((4, (3, 2, 1, 0)), (3, (0, 1, 2, 3)), (2, (0, 3, 0, 3)), (1, (3, 0, 3, 0)))),
]


def twice(fraction):
    return None if fraction is None else model.pair(2 * model.exact(fraction))


def twice_all(pay):
    return tuple(twice(amount) for amount in pay)


def is_most(one, other):
    """Whether the first cost is at most the second one; None is greater than all."""
    return other is None or (one is not None and model.exact(one) <= model.exact(other))


def some_tries(seed, many):
    """Jobs with all that is needed to ask for everything."""
    luck = Random(seed)
    for job in FIXED + model.some_jobs(seed, many):
        kinds = model_menus.some_kinds(luck, job)
        yield luck, job, kinds, luck.choice(model_menus.all_wishes(job)), model_wages.some_patience(luck)


class Renamed:
    """A job with its outcomes and works in another order, and all that is said of it renamed."""

    def __init__(self, job, outcomes, works):
        # Place k of the new job has the outcome outcomes[k], or the work works[k], of the old one.
        self.outcomes, self.works = outcomes, works
        self.outcome = {old: new for new, old in enumerate(outcomes)}
        self.work = {old: new for new, old in enumerate(works)}
        self.work[None] = None
        turned = [(job.works[old][0], self.pay(job.works[old][1])) for old in works]
        self.job = Job(self.pay(job.worths), tuple(turned))

    def pay(self, pay):
        return tuple(pay[old] for old in self.outcomes)

    def group(self, group):
        return tuple(sorted(self.outcome[old] for old in group))

    def groups(self, groups):
        return None if groups is None else tuple(sorted(self.group(group) for group in groups))

    def weights(self, weights):
        return {self.work[old]: weight for old, weight in weights.items()}

    def kinds(self, kinds):
        return tuple((number, tuple(efforts[old] for old in self.works)) for number, efforts in kinds)

    def answer(self, found):
        """What shows it for the one, as it must show it for the other."""
        if isinstance(found, (Barred, Unseen)):
            return type(found)(self.weights(found.mix))
        if isinstance(found, (Enough, Seen)):
            return type(found)(self.pay(found.pay), self.weights(found.weights))
        if isinstance(found, Best):
            return Best(self.work[found.work], {self.work[old]: self.answer(need) for old, need in found})
        if isinstance(found, Offer):
            return Offer(self.groups(found.groups), {self.groups(old): self.answer(row) for old, row in found})
        if isinstance(found, Wage):
            return Wage(found.wage, self.work[found.why])
        if isinstance(found, NoWage):
            return NoWage(self.work[found.one], self.work[found.other])
        if isinstance(found, Rule):
            fired = None if found.fired is None else self.group(found.fired)
            return Rule(fired, {self.group(old): self.answer(row) for old, row in found})
        weights = {(kind, pay, self.work[old]): weight for (kind, pay, old), weight in found.weights.items()}
        if isinstance(found, Menu):
            return Menu(tuple(self.pay(pay) for pay in found.pays), weights)
        return NoMenu(weights)


class InAnotherOrder(unittest.TestCase):
    def renamed(self, luck, job, outcomes, works):
        order = list(range(len(job.worths)))
        if outcomes:
            luck.shuffle(order)
        others = list(range(len(job)))
        if works:
            luck.shuffle(others)
        return Renamed(job, order, others)

    def test_outcomes(self):
        for luck, job, kinds, wish, patience in some_tries(131, 60):
            other = self.renamed(luck, job, True, False)
            self.check_pays(luck, job, other, (False,))
            self.check_shares(job, other)
            self.check_groups(luck, job, other)
            self.check_menus(job, other, kinds, wish)
            self.check_rounds(luck, job, other, patience)
            # The works are where they were.
            self.assertEqual([done(job, HALF), best_wish(job, kinds)], [done(other.job, HALF), best_wish(other.job, kinds)])
            self.assertEqual([turns(job), choose(job).work], [turns(other.job), choose(other.job).work])

    def test_works(self):
        for luck, job, kinds, wish, patience in some_tries(132, 60):
            other = self.renamed(luck, job, False, True)
            self.check_pays(luck, job, other, (False, True))
            self.check_shares(job, other)
            self.check_groups(luck, job, other)
            self.check_menus(job, other, kinds, wish)
            self.check_rounds(luck, job, other, patience)
            for work in range(len(job)):
                self.assertEqual(rule(job, work, patience).fired, rule(other.job, other.work[work], patience).fired)

    def test_both(self):
        for luck, job, kinds, wish, patience in some_tries(133, 60):
            other = self.renamed(luck, job, True, True)
            self.check_pays(luck, job, other, (False,))
            self.check_shares(job, other)
            self.check_groups(luck, job, other)
            self.check_menus(job, other, kinds, wish)
            self.check_rounds(luck, job, other, patience)

    def check_pays(self, luck, job, other, kinds_of_pays):
        pay = model.some_pay(luck, job)
        works = sorted(map(other.work.get, wanted(job, pay)), key=lambda work: -1 if work is None else work)
        self.assertEqual(wanted(other.job, other.pay(pay)), works)
        for rising in kinds_of_pays:
            for work in range(len(job)):
                mine, new = least_pay(job, work, rising=rising), other.work[work]
                self.assertTrue(other.answer(mine).shows(other.job, new, rising=rising))
                self.assertEqual(pay_cost(job, work, rising=rising), pay_cost(other.job, new, rising=rising))
                for call in (gain, profit):
                    self.assertEqual(call(job, work, pay), call(other.job, new, other.pay(pay)))
            self.assertTrue(other.answer(choose(job, rising=rising)).shows(other.job, rising=rising))
            self.assertEqual(best_profit(job, rising=rising), best_profit(other.job, rising=rising))

    def check_shares(self, job, other):
        self.assertEqual(best_share(job), best_share(other.job))
        mine, its = ([(share, model.worth(each, work)) for share, work in turns(each)] for each in (job, other.job))
        self.assertEqual(mine, its)

    def check_groups(self, luck, job, other):
        every = model.all_groups(len(job.worths))
        offers = {groups: luck.randint(0, 3) for groups in luck.sample(every, min(3, len(every)))}
        renamed = {other.groups(groups): price for groups, price in offers.items()}
        for work in range(len(job)):
            new = other.work[work]
            for groups in offers:
                self.assertTrue(other.answer(see(job, work, groups)).shows(other.job, new, other.groups(groups)))
                self.assertEqual(seen_cost(job, work, groups), seen_cost(other.job, new, other.groups(groups)))
            self.assertTrue(other.answer(offer(job, work, offers)).shows(other.job, new, renamed))
            self.assertEqual(offer_cost(job, work, offers), offer_cost(other.job, new, renamed))

    def check_menus(self, job, other, kinds, wish):
        renamed, new = other.kinds(kinds), tuple(other.work[work] for work in wish)
        self.assertTrue(other.answer(menu(job, kinds, wish)).shows(other.job, renamed, new))
        self.assertEqual(menu_cost(job, kinds, wish), menu_cost(other.job, renamed, new))
        self.assertEqual(best_wish(job, kinds)[1], best_wish(other.job, renamed)[1])

    def check_rounds(self, luck, job, other, patience):
        for work in range(len(job)):
            new = other.work[work]
            for fired in luck.sample(model_wages.all_fired(job), 3):
                its = other.group(fired)
                self.assertTrue(other.answer(wage(job, work, patience, fired)).shows(other.job, new, patience, its))
                self.assertEqual(least_wage(job, work, patience, fired), least_wage(other.job, new, patience, its))
            self.assertTrue(other.answer(rule(job, work, patience)).shows(other.job, new, patience))
            self.assertEqual(rule_wage(job, work, patience), rule_wage(other.job, new, patience))


class TwiceAsGreat(unittest.TestCase):
    def test_all_parts(self):
        """Only the sums of the draws are others: all answers for the one show it for the other."""
        seen = 0
        for luck, job, kinds, wish, patience in some_tries(134, 120):
            if max(part for effort, parts in job.works for part in parts) > 3:
                continue
            seen += 1
            other = Job(job.worths, tuple((effort, tuple(2 * part for part in parts)) for effort, parts in job.works))
            pay = model.some_pay(luck, job)
            self.assertEqual([wanted(job, pay), turns(job), best_share(job), best_wish(job, kinds)],
                             [wanted(other, pay), turns(other), best_share(other), best_wish(other, kinds)])
            self.assertTrue(menu(job, kinds, wish).shows(other, kinds, wish))
            for rising in (False, True):
                self.assertTrue(choose(job, rising=rising).shows(other, rising=rising))
                self.assertEqual(best_profit(job, rising=rising), best_profit(other, rising=rising))
            for work in range(len(job)):
                self.assertEqual([gain(job, work, pay), profit(job, work, pay)],
                                 [gain(other, work, pay), profit(other, work, pay)])
                offers = {groups: 1 for groups in model.all_groups(len(job.worths))[:4]}
                self.assertTrue(offer(job, work, offers).shows(other, work, offers))
                self.assertTrue(rule(job, work, patience).shows(other, work, patience))
                self.assertEqual([offer_cost(job, work, offers), rule_wage(job, work, patience)],
                                 [offer_cost(other, work, offers), rule_wage(other, work, patience)])
            session, its = Session(job, pay), Session(other, pay)
            for work in range(len(job)):
                for draw in range(sum(job.works[work][1])):
                    self.assertEqual(session.do(work, draw), its.do(work, 2 * draw + luck.randint(0, 1)))
            self.assertEqual([session.worker(), session.payer()], [its.worker(), its.payer()])
        self.assertGreater(seen, 40)

    def test_all_efforts_and_worths(self):
        seen = 0
        for luck, job, kinds, wish, patience in some_tries(135, 250):
            kinds = tuple((number, tuple(effort // 2 for effort in efforts)) for number, efforts in kinds)
            job = Job(tuple(worth // 2 for worth in job.worths), tuple((effort // 2, parts) for effort, parts in job.works))
            other = Job(tuple(2 * worth for worth in job.worths), tuple((2 * effort, parts) for effort, parts in job.works))
            seen += 1
            pay = model.some_pay(luck, job)
            self.assertEqual([wanted(job, pay), turns(job)], [wanted(other, twice_all(pay)), turns(other)])
            share, kept = best_share(job)
            self.assertEqual(best_share(other), (share, twice(kept)))
            self.check_pays(luck, job, other)
            self.check_menus(job, other, kinds, wish)
            for work in range(len(job)):
                self.assertEqual([twice(gain(job, work, pay)), twice(profit(job, work, pay))],
                                 [gain(other, work, twice_all(pay)), profit(other, work, twice_all(pay))])
                found = rule(job, work, patience)
                self.assertEqual([rule_wage(other, work, patience), rule(other, work, patience).fired],
                                 [twice(rule_wage(job, work, patience)), found.fired])
                rows = {fired: doubled(row) for fired, row in found}
                self.assertTrue(Rule(found.fired, rows).shows(other, work, patience))
        self.assertGreater(seen, 200)

    def check_pays(self, luck, job, other):
        for rising in (False, True):
            found = choose(job, rising=rising)
            needs = {work: doubled(need) for work, need in found}
            self.assertTrue(Best(found.work, needs).shows(other, rising=rising))
            self.assertEqual(best_profit(other, rising=rising), twice(best_profit(job, rising=rising)))
            self.assertEqual(choose(other, rising=rising).work, found.work)
            for work in range(len(job)):
                self.assertEqual(pay_cost(other, work, rising=rising), twice(pay_cost(job, work, rising=rising)))
        every = model.all_groups(len(job.worths))
        offers = {groups: luck.randint(0, 4) for groups in luck.sample(every, 2)}
        doubles = {groups: 2 * price for groups, price in offers.items()}
        for work in range(len(job)):
            found = offer(job, work, offers)
            rows = {groups: doubled(row) for groups, row in found}
            self.assertTrue(Offer(found.groups, rows).shows(other, work, doubles))
            self.assertEqual([offer_cost(other, work, doubles), offer(other, work, doubles).groups],
                             [twice(offer_cost(job, work, offers)), found.groups])

    def check_menus(self, job, other, kinds, wish):
        doubles = tuple((number, tuple(2 * effort for effort in efforts)) for number, efforts in kinds)
        self.assertEqual(menu_cost(other, doubles, wish), twice(menu_cost(job, kinds, wish)))
        self.assertTrue(doubled(menu(job, kinds, wish)).shows(other, doubles, wish))
        best, most = best_wish(job, kinds)
        self.assertEqual(best_wish(other, doubles), (best, twice(most)))

    def test_both_numbers_of_the_kinds(self):
        for luck, job, kinds, wish, patience in some_tries(136, 40):
            kinds = tuple((min(number, 3), efforts) for number, efforts in kinds)
            doubles = tuple((2 * number, efforts) for number, efforts in kinds)
            self.assertTrue(menu(job, kinds, wish).shows(job, doubles, wish))
            self.assertEqual(best_wish(job, kinds), best_wish(job, doubles))


def doubled(found):
    """What shows it for the one, as it must show it with all efforts and worths twice as great."""
    if isinstance(found, (Enough, Seen)):
        return type(found)(twice_all(found.pay), found.weights)
    if isinstance(found, Menu):
        return Menu(tuple(twice_all(pay) for pay in found.pays), found.weights)
    return Wage(twice(found.wage), found.why) if isinstance(found, Wage) else found


class WithoutTheLastWork(unittest.TestCase):
    def test_no_work_costs_more(self):
        cheaper = 0
        for luck, job, kinds, wish, patience in some_tries(137, 150):
            if len(job) == 2:
                continue
            fewer = Job(job.worths, job.works[:-1])
            every = model.all_groups(len(job.worths))
            offers = {groups: luck.randint(0, 3) for groups in luck.sample(every, 2)}
            for work in range(len(fewer)):
                costs = [(pay_cost(each, work), pay_cost(each, work, rising=True), offer_cost(each, work, offers),
                          rule_wage(each, work, patience)) for each in (fewer, job)]
                for one, other in zip(*costs):
                    self.assertTrue(is_most(one, other), (one, other))
                    cheaper += one != other
                for groups in offers:
                    self.assertTrue(is_most(seen_cost(fewer, work, groups), seen_cost(job, work, groups)))
                for fired in luck.sample(model_wages.all_fired(job), 3):
                    self.assertTrue(is_most(least_wage(fewer, work, patience, fired),
                                            least_wage(job, work, patience, fired)))
            few = tuple((number, efforts[:-1]) for number, efforts in kinds)
            for wish in model_menus.all_wishes(fewer):
                self.assertTrue(is_most(menu_cost(fewer, few, wish), menu_cost(job, kinds, wish)))
        self.assertGreater(cheaper, 50)

    def test_what_bars_still_bars(self):
        """A mix of works that are all still there, and weights without the last work, show the same."""
        told = dict.fromkeys("pays groups menus rounds".split(), 0)
        for luck, job, kinds, wish, patience in some_tries(138, 150):
            if len(job) == 2:
                continue
            fewer = Job(job.worths, job.works[:-1])
            few = tuple((number, efforts[:-1]) for number, efforts in kinds)
            groups = luck.choice(model.all_groups(len(job.worths)))
            for work in range(len(fewer)):
                for rising in (False, True):
                    found = least_pay(fewer, work, rising=rising)
                    if isinstance(found, Barred):
                        self.assertTrue(found.shows(job, work, rising=rising))
                        told["pays"] += 1
                found = see(fewer, work, groups)
                if isinstance(found, Unseen):
                    self.assertTrue(found.shows(job, work, groups))
                    told["groups"] += 1
                for fired, row in rule(fewer, work, patience):
                    if isinstance(row, NoWage):
                        self.assertTrue(row.shows(job, work, patience, fired))
                        told["rounds"] += 1
            for each in model_menus.all_wishes(fewer):
                found = menu(fewer, few, each)
                if isinstance(found, NoMenu):
                    self.assertTrue(found.shows(job, kinds, each))
                    told["menus"] += 1
        self.assertGreater(min(told.values()), 30, told)

    def test_weights_that_do_not_need_it(self):
        told = 0
        for luck, job, kinds, wish, patience in some_tries(139, 150):
            fewer = Job(job.worths, job.works[:-1]) if len(job) > 2 else None
            for work in range(len(job) - 1 if fewer else 0):
                for rising in (False, True):
                    found = least_pay(job, work, rising=rising)
                    last = len(job) - 1
                    if isinstance(found, Enough) and last not in found.weights:
                        self.assertTrue(found.shows(fewer, work, rising=rising))
                        told += 1
        self.assertGreater(told, 100)


class Between(unittest.TestCase):
    def test_rising_pays_cost_no_less(self):
        more = 0
        for luck, job, kinds, wish, patience in some_tries(140, 200):
            for work in range(len(job)):
                cost, rising = pay_cost(job, work), pay_cost(job, work, rising=True)
                self.assertTrue(is_most(cost, rising))
                more += cost != rising
                if isinstance(least_pay(job, work), Barred):
                    self.assertIsInstance(least_pay(job, work, rising=True), Barred)
            self.assertLessEqual(model.exact(best_profit(job, rising=True)), model.exact(best_profit(job)))
        self.assertGreater(more, 50)

    def test_greater_groups_cost_no_less(self):
        more = 0
        for luck, job, kinds, wish, patience in some_tries(141, 60):
            every = model.all_groups(len(job.worths))
            for work in range(len(job)):
                costs = {groups: seen_cost(job, work, groups) for groups in every}
                for fine in every:
                    for rough in every:
                        if all(any(set(group) <= set(greater) for greater in rough) for group in fine):
                            self.assertTrue(is_most(costs[fine], costs[rough]))
                            more += costs[fine] != costs[rough]
        self.assertGreater(more, 100)

    def test_groups_of_one_outcome_cost_as_much_as_any_pay(self):
        for luck, job, kinds, wish, patience in some_tries(142, 150):
            fine = tuple((outcome,) for outcome in range(len(job.worths)))
            for work in range(len(job)):
                self.assertEqual(seen_cost(job, work, fine), pay_cost(job, work))
                found = least_pay(job, work)
                same = Unseen(found.mix) if isinstance(found, Barred) else Seen(found.pay, found.weights)
                self.assertTrue(same.shows(job, work, fine))
                self.assertEqual(offer_cost(job, work, {fine: 0}), pay_cost(job, work))

    def test_two_kinds_with_the_same_efforts(self):
        """One menu with the same work for both costs what one pay costs."""
        told = {True: 0, False: 0}
        for luck, job, kinds, wish, patience in some_tries(143, 150):
            efforts = kinds[0][1]
            same = ((kinds[0][0], efforts), (kinds[1][0], efforts))
            alone = Job(job.worths, tuple((effort, parts) for effort, (_, parts) in zip(efforts, job.works)))
            for work in range(len(job)):
                self.assertEqual(menu_cost(job, same, (work, work)), pay_cost(alone, work))
                found = least_pay(alone, work)
                told[isinstance(found, Barred)] += 1
                if isinstance(found, Barred):
                    bars = NoMenu({(0, 0, other): part for other, part in found})
                    self.assertTrue(bars.shows(job, same, (work, work)))
                else:
                    shares = [model_menus.kind_chance(same, kind) for kind in (0, 1)]
                    weights = {(kind, None if other is None else kind, other):
                               model.pair(shares[kind] * model.exact(weight))
                               for kind in (0, 1) for other, weight in found.weights.items()}
                    self.assertTrue(Menu((found.pay, found.pay), weights).shows(job, same, (work, work)))
        self.assertGreater(min(told.values()), 50, told)

    def test_a_menu_costs_no_less_than_two_pays(self):
        """For kinds that could be told apart, each kind would need only its own pay."""
        more = 0
        for luck, job, kinds, wish, patience in some_tries(144, 60):
            alone = [Job(job.worths, tuple((effort, parts) for effort, (_, parts) in zip(efforts, job.works)))
                     for number, efforts in kinds]
            for wish in model_menus.all_wishes(job):
                cost = menu_cost(job, kinds, wish)
                costs = [pay_cost(alone[kind], wish[kind]) for kind in (0, 1)]
                if None in costs:
                    self.assertIsNone(cost)
                elif cost is not None:
                    least = sum(model_menus.kind_chance(kinds, kind) * model.exact(costs[kind]) for kind in (0, 1))
                    self.assertLessEqual(least, model.exact(cost))
                    more += least < model.exact(cost)
        self.assertGreater(more, 30)

    def test_no_wage_is_less_than_the_effort(self):
        for luck, job, kinds, wish, patience in some_tries(145, 100):
            for work in range(len(job)):
                least = rule_wage(job, work, patience)
                for fired in model_wages.all_fired(job):
                    self.assertTrue(is_most(least, least_wage(job, work, patience, fired)))
                    self.assertTrue(is_most((job.works[work][0], 1), least_wage(job, work, patience, fired)))

    def test_sessions_share_the_worths_less_the_efforts(self):
        for luck, job, kinds, wish, patience in some_tries(146, 60):
            session = Session(job, model.some_pay(luck, job))
            whole = 0
            for _ in range(20):
                work = luck.randrange(len(job))
                whole += job.worths[session.do(work, luck.randrange(sum(job.works[work][1])))] - job.works[work][0]
                self.assertEqual(model.exact(session.worker()) + model.exact(session.payer()), whole)

    def test_all_draws_of_a_work_bring_the_averages(self):
        for luck, job, kinds, wish, patience in some_tries(147, 60):
            pay = model.some_pay(luck, job)
            for work in range(len(job)):
                session, many = Session(job, pay), sum(job.works[work][1])
                for draw in range(many):
                    session.do(work, draw)
                self.assertEqual([model.exact(session.worker()) / many, model.exact(session.payer()) / many],
                                 [model.exact(gain(job, work, pay)), model.exact(profit(job, work, pay))])

    def test_what_is_read_is_as_what_was_written(self):
        for luck, job, kinds, wish, patience in some_tries(148, 60):
            other = read_job(job_text(job))
            for work in range(len(job)):
                found = least_pay(job, work)
                self.assertTrue(found.shows(other, work))
                self.assertEqual(rule(other, work, patience), rule(job, work, patience))
                if isinstance(found, Enough):
                    self.assertTrue(Enough(read_pay(other, pay_text(job, found.pay)), found.weights).shows(job, work))


if __name__ == "__main__":
    unittest.main()
