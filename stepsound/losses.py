"""What the greedy row loses: [15].

The loss for a signal is the greatest gain of any row: the greedy row's error
less that of the row. So the greedy row and any other one are followed side by
side. A TABLE has, for the states of both by their indexes, the greatest gain
of so many numbers that follow.
"""

from stepsound.signals import nearest_code


def greatest_loss_from(led, numbers, many, state):
    """(LOSS, SIGNAL): the greatest loss from a state, of MANY of the numbers, and the first signal that has it."""
    states = list(led)
    indexes = {each: index for index, each in enumerate(states)}
    levels = [level for level, _ in states]
    followers = [sorted(set([indexes[after] for after in led[each]])) for each in states]
    greedy = [[indexes[led[each][nearest_code(number, led[each])]] for number in numbers] for each in states]
    tables = [[[0 for _ in states] for _ in states]]
    for _ in range(many):
        tables.append(_table_ahead(levels, followers, numbers, greedy, tables[-1]))
    first = indexes[state]
    return tables[-1][first][first], _first_signal(levels, followers, numbers, greedy, tables, first)


def _table_ahead(levels, followers, numbers, greedy, table):
    """The table of one number more."""
    ahead = []
    for afters in greedy:
        by_number = []
        for number, after in zip(numbers, afters):
            gains = _gains_behind(levels, number, after, table)
            by_number.append([max([gains[each] for each in near]) for near in followers])
        ahead.append([max(gains) for gains in zip(*by_number)])
    return ahead


def _gains_behind(levels, number, greedy_after, table):
    """For each state to which the other row may lead, the gain of a number and of those that follow."""
    error = abs(number - levels[greedy_after])
    return [error - abs(number - level) + gain for level, gain in zip(levels, table[greedy_after])]


def _first_signal(levels, followers, numbers, greedy, tables, first):
    """The first signal with the gain that the last table has for the first state."""
    signal = []
    one, others = first, [first]
    for index in range(len(tables) - 1, 0, -1):
        wanted = tables[index][one]
        for number, after in zip(numbers, greedy[one]):
            gains = _gains_behind(levels, number, after, tables[index - 1])
            # All rows that can still have the gain are kept: the next number is the least for any of them.
            behind = _others_behind(followers, gains, wanted, others)
            if behind:
                signal.append(number)
                one, others = after, behind
                break
    return tuple(signal)


def _others_behind(followers, gains, wanted, others):
    """The states to which codes lead the others with just the gains that are wanted."""
    return sorted(set([each for other in others for each in followers[other] if gains[each] == wanted[other]]))
