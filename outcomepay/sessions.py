"""Sessions: works that are done for a pay, one after another, with their outcomes."""

from outcomepay.errors import BadDraw, BadSteps, NothingDone
from outcomepay.jobs import check_job, check_pay, check_work
from outcomepay.ratios import is_integer_within, minus, times, total

MOST_STEPS = 20


class Session:
    """A job, a pay for it, and the journal of the works that were done."""

    def __init__(self, job, pay):
        check_job(job)
        check_pay(job, pay)
        self._job = job
        self._pay = pay
        # This list is replaced, never changed: trials, branches and iterations may still have it.
        self._journal = []
        self._floor = 0

    @property
    def journal(self):
        """The pairs of a work and its outcome, in the order in which they were done."""
        return list(self._journal)

    def __len__(self):
        return len(self._journal)

    def __iter__(self):
        return iter(self._journal)

    def do(self, work, draw):
        """Do a work, and return the outcome to which the draw belongs."""
        check_work(self._job, work)
        if not _is_draw(self._job, work, draw):
            raise BadDraw("a draw is an integer from 0 to less than the sum of the parts of the work")
        outcome = _drawn(self._job, work, draw)
        self._journal = self._journal + [(work, outcome)]
        return outcome

    def worker(self):
        """The sum of the pays of all outcomes, less the efforts of all works."""
        efforts = sum([self._job.works[work][0] for work, outcome in self._journal])
        return minus(self._paid(), (efforts, 1))

    def payer(self):
        """The sum of the worths of all outcomes, less their pays."""
        worths = sum([self._job.worths[outcome] for work, outcome in self._journal])
        return minus((worths, 1), self._paid())

    def undo(self):
        """Take back the last work, in a trial only one of its own, and return it with its outcome."""
        if len(self._journal) <= self._floor:
            raise NothingDone("there is no work to take back")
        taken = self._journal[-1]
        self._journal = self._journal[:-1]
        return taken

    def branch(self):
        """An independent session with the same job, pay and journal."""
        found = Session(self._job, self._pay)
        found._journal = self._journal
        return found

    def trial(self):
        """What a with-block needs, so that at its end everything is as at its beginning."""
        return Trial(self)

    def tried(self, steps):
        """The outcomes of the works and draws, as if they were done in a trial."""
        if not isinstance(steps, (list, tuple)) or len(steps) > MOST_STEPS:
            raise BadSteps(None)
        for index, step in enumerate(steps):
            if not _is_step(self._job, step):
                raise BadSteps(index)
        # The outcomes do not hang on what was done before: nothing needs to be done and taken back.
        return [_drawn(self._job, work, draw) for work, draw in steps]

    def _paid(self):
        """The sum of the pays of all outcomes."""
        many = [0] * len(self._pay)
        for work, outcome in self._journal:
            many[outcome] += 1
        return total([times((count, 1), amount) for count, amount in zip(many, self._pay)])


class Trial:
    """A with-block over a session, at whose end the session is as at its beginning."""

    def __init__(self, session):
        self._session = session
        self._journal = session._journal
        self._floor = session._floor

    def __enter__(self):
        session = self._session
        self._journal = session._journal
        self._floor = session._floor
        session._floor = len(session._journal)
        return session

    def __exit__(self, kind, value, trace):
        session = self._session
        session._journal = self._journal
        session._floor = self._floor


def _is_draw(job, work, draw):
    """Whether this is a draw for the work."""
    return is_integer_within(draw, 0, sum(job.works[work][1]) - 1)


def _is_step(job, step):
    """Whether this is a pair of a work and a draw for it."""
    if not isinstance(step, tuple) or len(step) != 2:
        return False
    work, draw = step
    return is_integer_within(work, 0, len(job) - 1) and _is_draw(job, work, draw)


def _drawn(job, work, draw):
    """The outcome to which a draw for the work belongs."""
    outcome = 0
    reached = job.works[work][1][0]
    while draw >= reached:
        outcome += 1
        reached += job.works[work][1][outcome]
    return outcome
