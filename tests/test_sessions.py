import copy
import unittest
from fractions import Fraction
from random import Random

from outcomepay.errors import BadDraw, BadJob, BadPay, BadSteps, BadWork, NothingDone, PayError
from outcomepay.jobs import Job
from outcomepay.sessions import Session
from tests import model
from tests.wrong import WRONG_NUMBERS, Thing, anything

ZERO = (0, 1)
ONE = (1, 1)
JOB = Job((0, 4, 8), ((0, (2, 1, 1)), (2, (1, 2, 1))))
PAY = (ZERO, (8, 1), (1, 2))
GAPS = Job((1, 2, 3, 4), ((0, (0, 2, 0, 3)), (9, (0, 0, 6, 0)), (1, (1, 0, 0, 0)), (5, (6, 6, 6, 6))))


class Stop(Exception):
    """Leaves a trial."""


def outcome_of(job, work, draw):
    """The outcome to which a draw belongs: all draws are put in a row."""
    row = [outcome for outcome, part in enumerate(job.works[work][1]) for _ in range(part)]
    return row[draw]


def worker_balance(job, pay, journal):
    return sum((model.exact(pay[outcome]) - job.works[work][0] for work, outcome in journal), Fraction(0))


def payer_balance(job, pay, journal):
    return sum((job.worths[outcome] - model.exact(pay[outcome]) for work, outcome in journal), Fraction(0))


def some_step(luck, job):
    work = luck.randrange(len(job))
    return work, luck.randrange(sum(job.works[work][1]))


class Doing(unittest.TestCase):
    def test_the_example_step_by_step(self):
        session = Session(JOB, PAY)
        self.assertEqual([session.journal, len(session), session.worker(), session.payer()], [[], 0, ZERO, ZERO])
        self.assertEqual(session.do(1, 1), 1)
        self.assertEqual([session.journal, len(session)], [[(1, 1)], 1])
        # Paid 8 for an effort of 2; worth 4.
        self.assertEqual([session.worker(), session.payer()], [(6, 1), (-4, 1)])
        self.assertEqual(session.do(0, 3), 2)
        self.assertEqual([session.worker(), session.payer()], [(13, 2), (7, 2)])
        self.assertEqual(session.undo(), (0, 2))
        self.assertEqual([session.worker(), session.payer(), session.journal], [(6, 1), (-4, 1), [(1, 1)]])

    def test_outcomes_at_each_edge_of_a_draw(self):
        session = Session(JOB, PAY)
        self.assertEqual([session.do(0, draw) for draw in range(4)], [0, 0, 1, 2])
        self.assertEqual([session.do(1, draw) for draw in range(4)], [0, 1, 1, 2])
        gaps = Session(GAPS, (ZERO,) * 4)
        self.assertEqual([gaps.do(0, draw) for draw in range(5)], [1, 1, 3, 3, 3])
        self.assertEqual([gaps.do(1, draw) for draw in range(6)], [2] * 6)
        self.assertEqual(gaps.do(2, 0), 0)
        self.assertEqual([gaps.do(3, draw) for draw in (0, 5, 6, 11, 12, 17, 18, 23)], [0, 0, 1, 1, 2, 2, 3, 3])

    def test_all_draws(self):
        for job in model.some_jobs(111, 100):
            session = Session(job, (ZERO,) * len(job.worths))
            expected = []
            for work in range(len(job)):
                for draw in range(sum(job.works[work][1])):
                    outcome = outcome_of(job, work, draw)
                    self.assertEqual(session.do(work, draw), outcome)
                    self.assertEqual(session.tried([(work, draw)]), [outcome])
                    expected.append((work, outcome))
                with self.assertRaises(BadDraw):
                    session.do(work, sum(job.works[work][1]))
            self.assertEqual(session.journal, expected)

    def test_balances(self):
        luck = Random(112)
        for job in model.some_jobs(113, 60):
            pay = model.some_pay(luck, job)
            session = Session(job, pay)
            for _ in range(luck.randint(0, 30)):
                session.do(*some_step(luck, job))
                journal = session.journal
                self.assertEqual(session.worker(), model.pair(worker_balance(job, pay, journal)))
                self.assertEqual(session.payer(), model.pair(payer_balance(job, pay, journal)))

    def test_many_works(self):
        luck = Random(114)
        pay = ((1, 3), (22, 7), (10 ** 30, 10 ** 30 + 1))
        session = Session(JOB, pay)
        expected = []
        for _ in range(3000):
            work, draw = some_step(luck, JOB)
            expected.append((work, session.do(work, draw)))
        self.assertEqual([session.journal, len(session), list(session)], [expected, 3000, expected])
        self.assertEqual(session.worker(), model.pair(worker_balance(JOB, pay, expected)))
        self.assertEqual(session.payer(), model.pair(payer_balance(JOB, pay, expected)))
        self.assertEqual([session.undo() for _ in range(3000)], expected[::-1])
        self.assertEqual([len(session), session.worker(), session.payer()], [0, ZERO, ZERO])

    def test_undo_to_the_beginning_and_beyond(self):
        session = Session(JOB, PAY)
        for _ in range(2):
            with self.assertRaises(NothingDone):
                session.undo()
        session.do(0, 0)
        session.do(1, 3)
        self.assertEqual([session.undo(), session.undo()], [(1, 2), (0, 0)])
        for _ in range(2):
            with self.assertRaises(NothingDone):
                session.undo()
        self.assertEqual([session.journal, session.worker(), session.payer()], [[], ZERO, ZERO])
        self.assertEqual([session.do(1, 0), session.undo()], [0, (1, 0)])


class Journals(unittest.TestCase):
    def test_a_journal_that_is_changed_by_the_caller(self):
        session = Session(JOB, PAY)
        session.journal.append((0, 0))
        self.assertEqual([session.journal, len(session)], [[], 0])
        session.do(1, 1)
        journal = session.journal
        self.assertIs(type(journal), list)
        self.assertIsNot(journal, session.journal)
        journal.clear()
        self.assertEqual([session.journal, list(session), session.worker()], [[(1, 1)], [(1, 1)], (6, 1)])
        kept = session.journal
        session.do(0, 0)
        self.assertEqual([kept, session.journal], [[(1, 1)], [(1, 1), (0, 0)]])
        session.undo()
        session.undo()
        self.assertEqual([kept, session.journal], [[(1, 1)], []])

    def test_it_cannot_be_assigned(self):
        session = Session(JOB, PAY)
        with self.assertRaises(AttributeError):
            session.journal = []

    def test_iteration(self):
        session = Session(JOB, PAY)
        self.assertEqual(list(session), [])
        session.do(1, 1)
        session.do(0, 3)
        for _ in range(2):
            self.assertEqual(list(session), [(1, 1), (0, 2)])
        self.assertEqual([work for work, outcome in session], [1, 0])
        self.assertEqual(max(outcome for work, outcome in session), 2)

    def test_iteration_while_more_is_done(self):
        session = Session(JOB, PAY)
        for draw in (0, 1, 3):
            session.do(0, draw)
        held = iter(session)
        self.assertEqual(next(held), (0, 0))
        session.do(1, 2)
        session.undo()
        session.tried([(1, 1)] * 20)
        with session.trial():
            session.do(1, 1)
            inner = iter(session)
        self.assertEqual(list(held), [(0, 0), (0, 2)])
        self.assertEqual(list(inner), [(0, 0), (0, 0), (0, 2), (1, 1)])
        # It gives the journal as it was when the iteration began; it comes to an end.
        for work, outcome in session:
            session.do(1, 3)
        self.assertEqual(session.journal, [(0, 0), (0, 0), (0, 2), (1, 2), (1, 2), (1, 2)])
        self.assertEqual([session.undo() for pair in session], [(1, 2)] * 3 + [(0, 2), (0, 0), (0, 0)])
        self.assertEqual(list(session), [])


class Branches(unittest.TestCase):
    def test_they_are_independent(self):
        session = Session(JOB, PAY)
        session.do(1, 1)
        branch = session.branch()
        self.assertIs(type(branch), Session)
        self.assertEqual([branch.journal, branch.worker(), branch.payer()], [[(1, 1)], (6, 1), (-4, 1)])
        branch.do(0, 0)
        session.do(0, 3)
        self.assertEqual([session.journal, branch.journal], [[(1, 1), (0, 2)], [(1, 1), (0, 0)]])
        self.assertEqual([branch.undo(), branch.undo()], [(0, 0), (1, 1)])
        with self.assertRaises(NothingDone):
            branch.undo()
        self.assertEqual([session.journal, session.undo(), session.undo()], [[(1, 1), (0, 2)], (0, 2), (1, 1)])

    def test_of_a_new_session(self):
        branch = Session(JOB, PAY).branch()
        self.assertEqual([branch.journal, branch.do(1, 1), branch.worker()], [[], 1, (6, 1)])

    def test_before_in_and_after_a_trial(self):
        session = Session(JOB, PAY)
        session.do(0, 0)
        before = session.branch()
        with session.trial() as inner:
            inner.do(1, 1)
            within = inner.branch()
            # All works can be undone in the branch, also those before the trial.
            other = session.branch()
            self.assertEqual([other.undo(), other.undo()], [(1, 1), (0, 0)])
            with self.assertRaises(NothingDone):
                other.undo()
            within.do(1, 3)
            before.do(1, 0)
            self.assertEqual(session.journal, [(0, 0), (1, 1)])
            session.undo()
            with self.assertRaises(NothingDone):
                session.undo()
        after = session.branch()
        self.assertEqual([before.journal, within.journal, after.journal, session.journal],
                         [[(0, 0), (1, 0)], [(0, 0), (1, 1), (1, 2)], [(0, 0)], [(0, 0)]])
        self.assertEqual([within.undo(), within.undo(), within.undo()], [(1, 2), (1, 1), (0, 0)])
        self.assertEqual([after.undo(), session.journal], [(0, 0), [(0, 0)]])

    def test_a_trial_in_a_branch(self):
        session = Session(JOB, PAY)
        with session.trial():
            session.do(0, 0)
            branch = session.branch()
            with branch.trial() as inner:
                self.assertIs(inner, branch)
                inner.do(1, 1)
                session.do(1, 2)
                session.do(1, 3)
            self.assertEqual([branch.journal, session.journal], [[(0, 0)], [(0, 0), (1, 1), (1, 2)]])
        self.assertEqual([branch.journal, session.journal], [[(0, 0)], []])


class Trials(unittest.TestCase):
    def test_all_is_as_at_the_beginning(self):
        session = Session(JOB, PAY)
        session.do(1, 1)
        with session.trial() as inner:
            self.assertIs(inner, session)
            self.assertEqual([inner.do(0, 0), inner.do(0, 3), len(session)], [0, 2, 3])
            self.assertEqual([session.worker(), session.payer()], [(13, 2), (7, 2)])
        self.assertEqual([session.journal, session.worker(), session.payer()], [[(1, 1)], (6, 1), (-4, 1)])
        self.assertEqual(session.undo(), (1, 1))

    def test_only_its_own_works_can_be_undone(self):
        session = Session(JOB, PAY)
        session.do(1, 1)
        session.do(1, 2)
        with session.trial():
            with self.assertRaises(NothingDone):
                session.undo()
            session.do(0, 0)
            self.assertEqual(session.undo(), (0, 0))
            with self.assertRaises(NothingDone):
                session.undo()
            self.assertEqual(len(session), 2)
        self.assertEqual([session.undo(), session.undo()], [(1, 1), (1, 1)])

    def test_within_one_another(self):
        session = Session(JOB, PAY)
        session.do(0, 0)
        with session.trial():
            session.do(0, 2)
            with session.trial() as inner:
                self.assertIs(inner, session)
                with self.assertRaises(NothingDone):
                    session.undo()
                session.do(0, 3)
                with session.trial():
                    session.do(1, 0)
                    session.do(1, 0)
                    self.assertEqual(session.undo(), (1, 0))
                self.assertEqual(session.journal, [(0, 0), (0, 1), (0, 2)])
                self.assertEqual(session.undo(), (0, 2))
                with self.assertRaises(NothingDone):
                    session.undo()
                session.do(1, 3)
            self.assertEqual(session.journal, [(0, 0), (0, 1)])
            self.assertEqual(session.undo(), (0, 1))
            with self.assertRaises(NothingDone):
                session.undo()
        self.assertEqual([session.journal, session.undo()], [[(0, 0)], (0, 0)])

    def test_left_by_an_error(self):
        session = Session(JOB, PAY)
        session.do(0, 0)
        stop = Stop("stop")
        for error in (stop, BadWork("x"), KeyboardInterrupt(), NothingDone("x")):
            with self.assertRaises(type(error)) as caught:
                with session.trial():
                    session.do(1, 1)
                    with session.trial():
                        session.do(1, 1)
                        raise error
            self.assertIs(caught.exception, error)
            self.assertEqual([session.journal, session.worker()], [[(0, 0)], ZERO])
        with self.assertRaises(BadDraw):
            with session.trial():
                session.do(1, 1)
                session.do(1, 4)
        with self.assertRaises(NothingDone):
            with session.trial():
                session.undo()
        self.assertEqual([session.journal, session.undo()], [[(0, 0)], (0, 0)])

    def test_an_error_that_is_caught_between_two_trials(self):
        session = Session(JOB, PAY)
        with session.trial():
            session.do(0, 0)
            with self.assertRaises(Stop):
                with session.trial():
                    session.do(1, 1)
                    raise Stop
            self.assertEqual(session.journal, [(0, 0)])
            self.assertEqual(session.undo(), (0, 0))
            with self.assertRaises(NothingDone):
                session.undo()
        self.assertEqual(session.journal, [])

    def test_left_by_return_break_and_continue(self):
        session = Session(JOB, PAY)

        def left():
            with session.trial():
                return session.do(1, 1)

        self.assertEqual([left(), session.journal], [1, []])
        for _ in range(3):
            with session.trial():
                session.do(0, 0)
                continue
        while True:
            with session.trial():
                session.do(0, 0)
                break
        self.assertEqual(session.journal, [])

    def test_it_begins_with_the_block(self):
        session = Session(JOB, PAY)
        trial = session.trial()
        session.do(0, 0)
        self.assertEqual(session.undo(), (0, 0))
        session.do(1, 1)
        with trial:
            session.do(0, 3)
            with self.assertRaises(NothingDone):
                session.undo()
                session.undo()
        self.assertEqual(session.journal, [(1, 1)])
        session.do(0, 0)
        with trial:
            session.do(0, 3)
        self.assertEqual([session.journal, session.undo(), session.undo()], [[(1, 1), (0, 0)], (0, 0), (1, 1)])


class Tried(unittest.TestCase):
    def unchanged(self, session, call):
        kept = [session.journal, session.worker(), session.payer(), len(session)]
        try:
            return call()
        finally:
            self.assertEqual([session.journal, session.worker(), session.payer(), len(session)], kept)

    def test_good_steps(self):
        session = Session(JOB, PAY)
        session.do(1, 1)
        for steps in ([(0, 0), (1, 3)], ((0, 0), (1, 3))):
            self.assertEqual(self.unchanged(session, lambda: session.tried(steps)), [0, 2])
        for steps in ([], ()):
            found = self.unchanged(session, lambda: session.tried(steps))
            self.assertEqual([type(found), found], [list, []])
        steps = [(1, draw) for draw in range(4)] * 5
        self.assertEqual(self.unchanged(session, lambda: session.tried(steps)), [0, 1, 1, 2] * 5)
        self.assertEqual(steps, [(1, draw) for draw in range(4)] * 5)
        self.assertEqual(session.undo(), (1, 1))

    def test_in_a_trial(self):
        session = Session(JOB, PAY)
        session.do(1, 1)
        with session.trial():
            session.do(0, 0)
            self.assertEqual(self.unchanged(session, lambda: session.tried([(0, 0), (1, 3)])), [0, 2])
            self.assertEqual(session.undo(), (0, 0))
            with self.assertRaises(NothingDone):
                session.undo()
        self.assertEqual([session.journal, session.undo()], [[(1, 1)], (1, 1)])

    def check(self, session, index, steps):
        with self.assertRaises(BadSteps, msg=steps) as caught:
            self.unchanged(session, lambda: session.tried(steps))
        self.assertEqual(caught.exception.index, index)
        self.assertNotIsInstance(caught.exception.index, bool)

    def test_no_list_and_no_tuple(self):
        session = Session(JOB, PAY)
        session.do(1, 1)
        wrong = [thing for thing in anything() if not isinstance(thing, (list, tuple))]
        for steps in wrong + [{(0, 0): 1}, iter([(0, 0)]), "00", session, range(0), {(0, 0)}, JOB]:
            self.check(session, None, steps)

    def test_twenty_and_twenty_one_steps(self):
        session = Session(JOB, PAY)
        for made in (list, tuple):
            self.assertEqual(session.tried(made([(0, 3)] * 20)), [2] * 20)
            self.check(session, None, made([(0, 3)] * 21))
            self.check(session, None, made([(0, 3)] * 1000))
            # Too many: no step is looked at.
            self.check(session, None, made([None] + [(0, 3)] * 20))
            self.check(session, 19, made([(0, 3)] * 19 + [None]))
            self.check(session, None, made([(0, 3)] * 20 + [None]))

    def test_wrong_steps(self):
        session = Session(JOB, PAY)
        session.do(1, 1)
        wrong = [None, 0, "00", [0, 0], [], (), (0,), (0, 0, 0), (0, 4), (1, 4), (0, -1), (2, 0), (-1, 0), (0, 10 ** 40),
                 (10 ** 40, 0), (0, None), (None, 0), (0, "0"), ("0", 0), ((0, 0),), {0: 0}, Thing(), (0, (0,)), b"\x00\x00",
                 (True, 0), (0, True), (False, 0), (0, False), (True, True)]
        for step in wrong:
            self.check(session, 0, [step])
            self.check(session, 0, (step,))
            self.check(session, 1, [(0, 0), step])
            self.check(session, 2, [(0, 0), (1, 3), step, (0, 0)])
            # The first wrong one counts, also if a later one is wrong in another way.
            for other in (None, (2, 0), (0, 4), [0, 0]):
                self.check(session, 1, [(0, 3), step, (0, 0), other])
                self.check(session, 1, ((0, 3), other, (0, 0), step))

    def test_a_draw_for_another_work(self):
        session = Session(GAPS, (ZERO,) * 4)
        self.assertEqual(session.tried([(0, 4), (1, 5), (2, 0), (3, 23)]), [3, 2, 0, 3])
        for work, many in enumerate((5, 6, 1, 24)):
            self.check(session, 1, [(3, 23), (work, many), (2, 1)])

    def test_new_each_time(self):
        session = Session(JOB, PAY)
        session.tried([(0, 0)]).clear()
        self.assertEqual(session.tried([(0, 0)]), [0])


class Refusing(unittest.TestCase):
    def check(self, error, call, *arguments):
        with self.assertRaises(error, msg=arguments) as caught:
            call(*arguments)
        self.assertIs(type(caught.exception), error)
        if error is BadJob:
            self.assertIsNone(caught.exception.part)

    def test_new_sessions(self):
        for job in anything() + [(JOB.worths, JOB.works), Session(JOB, PAY)]:
            for pay in (PAY, None, PAY[:2]):
                self.check(BadJob, Session, job, pay)
        for pay in anything() + [list(PAY), PAY[:2], PAY + PAY[:1], (ZERO, ZERO, (-1, 2)), (ZERO, ZERO, (2, 4)),
                                 (ZERO, ZERO, (1, 0)), (ZERO, ZERO, 1), (ZERO, ZERO, [1, 2]), (ZERO, ZERO, (True, 1))]:
            self.check(BadPay, Session, JOB, pay)

    def test_wrong_works_and_draws(self):
        session = Session(JOB, PAY)
        session.do(1, 1)
        for work in anything() + [2, 3, -2, 10 ** 40, [0], "1"]:
            for draw in (0, None, 4, True):
                self.check(BadWork, session.do, work, draw)
        for draw in anything() + [4, -1, 5, 10 ** 40, [0], "1", ZERO] + list(WRONG_NUMBERS):
            for work in (0, 1):
                self.check(BadDraw, session.do, work, draw)
        self.assertEqual([session.journal, session.worker(), session.payer()], [[(1, 1)], (6, 1), (-4, 1)])

    def test_in_a_trial(self):
        session = Session(JOB, PAY)
        with session.trial():
            session.do(1, 1)
            self.check(BadWork, session.do, 2, 0)
            self.check(BadDraw, session.do, 1, 4)
            self.check(BadSteps, session.tried, None)
            self.assertEqual(session.journal, [(1, 1)])
            self.assertEqual(session.undo(), (1, 1))
            self.check(NothingDone, session.undo)
        self.check(NothingDone, session.undo)
        self.assertEqual(session.journal, [])


class Told:
    """What a session must tell, kept as a plain list."""

    def __init__(self, job, pay, journal=()):
        self.job, self.pay, self.journal, self.floor = job, pay, list(journal), 0


class Playing(unittest.TestCase):
    """Sessions with many works, trials and branches against lists that are copied."""

    def test_against_a_model(self):
        luck = Random(115)
        for job in model.some_jobs(116, 30):
            pay = model.some_pay(luck, job)
            session = Session(job, pay)
            told = Told(job, pay)
            for _ in range(4):
                self.play(luck, session, told, 0)
            while told.journal:
                self.assertEqual(session.undo(), told.journal.pop())
            with self.assertRaises(NothingDone):
                session.undo()

    def play(self, luck, session, told, depth):
        for _ in range(luck.randint(0, 10)):
            choice = luck.randrange(10)
            if choice < 4:
                work, draw = some_step(luck, told.job)
                outcome = outcome_of(told.job, work, draw)
                self.assertEqual(session.do(work, draw), outcome)
                told.journal.append((work, outcome))
            elif choice < 6 and len(told.journal) > told.floor:
                self.assertEqual(session.undo(), told.journal.pop())
            elif choice < 6:
                with self.assertRaises(NothingDone):
                    session.undo()
            elif choice == 6:
                steps = [some_step(luck, told.job) for _ in range(luck.randint(0, 20))]
                self.assertEqual(session.tried(steps), [outcome_of(told.job, *step) for step in steps])
                with self.assertRaises(PayError):
                    luck.choice((lambda: session.do(9, 0), lambda: session.do(0, 99), lambda: session.tried([(9, 0)])))()
            elif choice == 7:
                self.play(luck, session.branch(), Told(told.job, told.pay, told.journal), depth)
            elif depth < 4:
                self.trial(luck, session, told, depth)
            self.compare(session, told)

    def trial(self, luck, session, told, depth):
        kept = (list(told.journal), told.floor)
        told.floor = len(told.journal)
        try:
            with session.trial() as inner:
                self.assertIs(inner, session)
                self.play(luck, session, told, depth + 1)
                if luck.random() < 0.4:
                    raise Stop
        except Stop:
            pass
        told.journal, told.floor = kept

    def compare(self, session, told):
        self.assertEqual([session.journal, list(session), len(session)],
                         [told.journal, told.journal, len(told.journal)])
        self.assertEqual(session.worker(), model.pair(worker_balance(told.job, told.pay, told.journal)))
        self.assertEqual(session.payer(), model.pair(payer_balance(told.job, told.pay, told.journal)))


class Objects(unittest.TestCase):
    def test_methods_stand_in_the_class(self):
        for name in ("__init__", "__iter__", "__len__", "journal", "do", "worker", "payer", "undo", "branch", "trial",
                     "tried"):
            self.assertIn(name, vars(Session))
        self.assertIsInstance(vars(Session)["journal"], property)

    def test_arguments_are_left_as_they_are(self):
        pay, steps = copy.deepcopy(PAY), [(0, 0), (1, 1)]
        session = Session(JOB, pay)
        session.tried(steps)
        session.do(0, 0)
        steps.append(None)
        self.assertEqual([pay, session.journal, session.tried(steps[:2])], [PAY, [(0, 0)], [0, 1]])
        self.assertEqual(JOB, Job((0, 4, 8), ((0, (2, 1, 1)), (2, (1, 2, 1)))))


if __name__ == "__main__":
    unittest.main()
