"""Least costs under demands, exactly, by the simplex method over fractions.

Amounts of at least 0 are wanted that meet all demands and cost as little as possible. A demand is
met if the sum of the amounts, each multiplied by its number in the row of the demand, is at least
the need. The method walks over weights of the demands instead of over amounts: as no cost is less
than 0, weights of 0 are always a place to start from.
"""

from outcomepay.ratios import ONE, ZERO, is_less, minus, negative, over, times


def cheapest(costs, rows, needs):
    """The cheapest amounts that meet all demands, and weights that show that less is not enough.

    The weights, each multiplied by the row of its demand, are together at most the costs; and the
    weights, each multiplied by the need of its demand, are together the cost of the amounts.

    If no amounts meet all demands, None and weights that show this: together with the rows they
    are at most 0, together with the needs greater than 0.
    """
    table = _first_table(costs, rows, needs)
    many = len(rows)
    # Which weight, or which slack of a cost behind all weights, each line of the table tells.
    told = [many + k for k in range(len(costs))]
    while True:
        column = _rising_column(table[-1])
        if column is None:
            return [negative(entry) for entry in table[-1][many:-1]], _weights(table, told, many)
        line = _tightest_line(table, told, column)
        if line is None:
            return None, _endless_weights(table, told, many, column)
        table = _pivoted(table, line, column)
        told[line] = column


def _first_table(costs, rows, needs):
    """A line for each cost: the numbers of all demands there, the slacks, the cost; then the goal."""
    table = []
    for k, cost in enumerate(costs):
        slacks = [ONE if k == other else ZERO for other in range(len(costs))]
        table.append([row[k] for row in rows] + slacks + [cost])
    table.append(list(needs) + [ZERO] * (len(costs) + 1))
    return table


def _rising_column(goal):
    """The first column with which the goal can still rise, None if there is none.

    Always the first one, here and among the lines, so that the walk never goes in a circle.
    """
    for column, entry in enumerate(goal[:-1]):
        if is_less(ZERO, entry):
            return column
    return None


def _tightest_line(table, told, column):
    """The line that bounds the column most, None if nothing bounds it."""
    best = None
    bound = None
    for line, place in enumerate(told):
        entry = table[line][column]
        if not is_less(ZERO, entry):
            continue
        reach = over(table[line][-1], entry)
        if best is None or is_less(reach, bound) or (reach == bound and place < told[best]):
            best = line
            bound = reach
    return best


def _pivoted(table, line, column):
    """The table after the line is solved for the column."""
    pivot = table[line][column]
    solved = [over(entry, pivot) for entry in table[line]]
    found = []
    for at, entries in enumerate(table):
        if at == line:
            found.append(solved)
        else:
            factor = entries[column]
            found.append([minus(entry, times(factor, part)) for entry, part in zip(entries, solved)])
    return found


def _weights(table, told, many):
    """The weights that the table tells."""
    weights = [ZERO] * many
    for line, place in enumerate(told):
        if place < many:
            weights[place] = table[line][-1]
    return weights


def _endless_weights(table, told, many, column):
    """Weights that can be added again and again, where nothing bounds the column."""
    weights = [ZERO] * many
    if column < many:
        weights[column] = ONE
    for line, place in enumerate(told):
        if place < many:
            weights[place] = negative(table[line][column])
    return weights
