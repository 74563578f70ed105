"""Whether two states come together: [7], [8]."""

from stepsound.coders import need_coder
from stepsound.couples import couple_of, graph_from, led_states, ranks_in, ring_from, row_apart, row_joining
from stepsound.errors import BadPaper
from stepsound.kinds import is_tuple_of_codes, need_few_states, need_place, need_state
from stepsound.papers import couple_behind, need_couples, need_form, need_ranks, need_ring

FORMS = (("always", 3), ("sometimes", 4), ("never", 2))


def together(coder, one, other):
    """The paper of two states: whether all rows, some or none bring them together."""
    _need_states(coder, one, other)
    couple = couple_of(one, other)
    if couple is None:
        return "always", (), ()
    led = led_states(coder)
    graph = graph_from(led, [couple])
    ranks = ranks_in(graph)
    if couple in ranks:
        return "always", tuple(sorted(ranks.items())), row_apart(graph, ranks, couple)
    row = row_joining(led, couple)
    if row is None:
        return "never", tuple(sorted(graph))
    lead, ring = ring_from(graph, ranks, couple)
    return "sometimes", row, lead, ring


def check_together(coder, one, other, paper):
    """The word of a paper of two states; refuse a paper that proves nothing."""
    _need_states(coder, one, other)
    need_form(paper, FORMS)
    if paper[0] == "always":
        _check_always(coder, one, other, paper)
    elif paper[0] == "sometimes":
        _check_sometimes(coder, one, other, paper)
    else:
        _check_never(coder, one, other, paper)
    return paper[0]


def joining_row(coder, one, other):
    """The first of the shortest rows that bring two states together, None if there is none."""
    _need_states(coder, one, other)
    return _first_row(coder, one, other)


def merging_row(coder, place):
    """The first of the shortest rows behind which all levels at a place have become one, or None."""
    _need_few(coder)
    need_place(coder, place)
    # The levels between the limits stay between them, by [8].
    return _first_row(coder, (coder[0], place), (coder[1], place))


def _need_few(coder):
    need_coder(coder)
    need_few_states(coder, 256)


def _need_states(coder, one, other):
    _need_few(coder)
    need_state(coder, one)
    need_state(coder, other)


def _first_row(coder, one, other):
    couple = couple_of(one, other)
    if couple is None:
        return ()
    return row_joining(led_states(coder), couple)


def _check_always(coder, one, other, paper):
    ranks, row = paper[1:]
    if one == other:
        _check_equal(ranks, row)
        return
    listed = need_ranks(coder, led_states(coder), ranks)
    couple = couple_of(one, other)
    if couple not in listed:
        raise BadPaper("ranks", len(ranks))
    if not is_tuple_of_codes(coder, row) or len(row) != listed[couple] - 1:
        raise BadPaper("row", None)
    if couple_behind(coder, row, one, other) is None:
        raise BadPaper("row", None)


def _check_equal(ranks, row):
    """Refuse whatever is listed or told of two equal states."""
    if not isinstance(ranks, tuple):
        raise BadPaper("ranks", None)
    if len(ranks) > 0:
        raise BadPaper("ranks", 0)
    if not isinstance(row, tuple) or len(row) > 0:
        raise BadPaper("row", None)


def _check_sometimes(coder, one, other, paper):
    row, lead, ring = paper[1:]
    if not is_tuple_of_codes(coder, row) or couple_behind(coder, row, one, other) is not None:
        raise BadPaper("row", None)
    need_ring(coder, one, other, lead, ring)


def _check_never(coder, one, other, paper):
    couples = paper[1]
    listed = need_couples(coder, led_states(coder), couples)
    # Equal states make no couple, so they are never listed.
    if couple_of(one, other) not in listed:
        raise BadPaper("couples", len(couples))
