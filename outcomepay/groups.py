"""Groups of outcomes, for a payer that sees only the group in which the outcome is."""

from outcomepay.errors import BadGroups
from outcomepay.jobs import work_chances
from outcomepay.ratios import is_integer_within, total


def are_groups(job, groups):
    """Whether this is an ascending tuple of ascending tuples in which each outcome of the job is once."""
    many = len(job.worths)
    if not isinstance(groups, tuple) or not all([_is_group(group, many) for group in groups]):
        return False
    outcomes = [outcome for group in groups for outcome in group]
    return list(groups) == sorted(groups) and sorted(outcomes) == list(range(many))


def _is_group(group, many):
    """Whether this is a tuple of one or more of so many outcomes, none less than the one before."""
    if not isinstance(group, tuple) or len(group) == 0:
        return False
    return all([is_integer_within(outcome, 0, many - 1) for outcome in group]) and list(group) == sorted(group)


def check_groups(job, groups):
    """Raise BadGroups if these are not groups of the outcomes of the job."""
    if not are_groups(job, groups):
        raise BadGroups("groups are an ascending tuple of ascending tuples, with each outcome once")


def group_views(job, groups):
    """The chances of all groups, for each work."""
    found = []
    for work in range(len(job)):
        chances = work_chances(job, work)
        found.append([total([chances[outcome] for outcome in group]) for group in groups])
    return found


def hangs_on(pay, groups):
    """Whether a pay is the same for all outcomes of each group."""
    return all([pay[outcome] == pay[group[0]] for group in groups for outcome in group])


def spread(amounts, groups):
    """The pay with the amount of its group for each outcome."""
    found = {outcome: amount for amount, group in zip(amounts, groups) for outcome in group}
    return tuple([found[outcome] for outcome in range(len(found))])
