"""Rows for signals, and their errors: [13]."""

from stepsound.coders import need_coder
from stepsound.couples import led_states
from stepsound.errors import BadPaper, OutOfPlace
from stepsound.kinds import is_integer, need_few_states, need_row, need_state
from stepsound.moves import samples_along, state_behind
from stepsound.signals import nearest_code, need_signal, total_distance


def error_of(coder, signal, row, *, state=(0, 0)):
    """The error of a row with as many codes as a signal has numbers."""
    need_coder(coder)
    _need_signal_and_row(coder, signal, row)
    need_state(coder, state)
    return _error_along(coder, signal, row, state)


def greedy_row(coder, signal, *, state=(0, 0)):
    """The row that takes the nearest sample for each number, of several the least code."""
    need_coder(coder)
    need_signal(signal)
    need_state(coder, state)
    row = []
    now = state
    for number in signal:
        states = [state_behind(coder, now, code) for code in range(len(coder[3]))]
        code = nearest_code(number, states)
        row.append(code)
        now = states[code]
    return tuple(row)


def best_row(coder, signal, *, state=(0, 0)):
    """(ROW, ERROR, PRICES): the first row with the least error, and the paper of that."""
    _need_few(coder)
    need_signal(signal)
    need_state(coder, state)
    led = led_states(coder)
    prices = _least_prices(led, signal)
    row = _row_at(led, signal, prices, state)
    return row, prices[0][state], tuple([tuple(layer.values()) for layer in prices])


def check_best(coder, signal, row, prices, *, state=(0, 0)):
    """The error of a row; refuse prices that do not show that no row has a lesser one."""
    _need_few(coder)
    _need_signal_and_row(coder, signal, row)
    need_state(coder, state)
    layers = _need_prices(coder, signal, prices)
    error = _error_along(coder, signal, row, state)
    if error != layers[0][state]:
        raise BadPaper("row", None)
    return error


def _need_few(coder):
    need_coder(coder)
    need_few_states(coder, 256)


def _need_signal_and_row(coder, signal, row):
    need_signal(signal)
    need_row(coder, row)
    if len(row) != len(signal):
        raise OutOfPlace("a row with another number of codes than the signal has numbers")


def _error_along(coder, signal, row, state):
    return total_distance(signal, samples_along(coder, row, state))


def _least_prices(led, signal):
    """For each index of the signal, and behind it, the dict of the least errors of rows from each state."""
    layer = {state: 0 for state in led}
    layers = [layer]
    for number in signal[::-1]:
        layer = {state: min(_prices_by_code(led, number, layer, state)) for state in led}
        layers.append(layer)
    return layers[::-1]


def _prices_by_code(led, number, layer, state):
    """For each code the distance of its sample from a number, plus the price behind it."""
    return [abs(number - after[0]) + layer[after] for after in led[state]]


def _row_at(led, signal, prices, state):
    """The first row whose error is the price of a state."""
    row = []
    now = state
    for index, number in enumerate(signal):
        code = _prices_by_code(led, number, prices[index + 1], now).index(prices[index][now])
        row.append(code)
        now = led[now][code]
    return tuple(row)


def _need_prices(coder, signal, prices):
    """Refuse what are no PRICES of a signal, by the first fault; return the dicts of them."""
    if not isinstance(prices, tuple) or len(prices) != len(signal) + 1:
        raise BadPaper("prices", None)
    led = led_states(coder)
    for index, thing in enumerate(prices):
        if not _are_integers(thing, len(led)):
            raise BadPaper("prices", index)
    layers = [{state: price for state, price in zip(led, thing)} for thing in prices]
    for index, number in enumerate(signal):
        for state in led:
            if layers[index][state] > min(_prices_by_code(led, number, layers[index + 1], state)):
                raise BadPaper("prices", index)
    if not all([price == 0 for price in prices[-1]]):
        raise BadPaper("prices", len(signal))
    return layers


def _are_integers(thing, many):
    return isinstance(thing, tuple) and len(thing) == many and all([is_integer(number) for number in thing])
