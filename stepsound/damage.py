"""Codes that are lost or received wrongly, and whether that heals: [9], [10]."""

from stepsound.coders import need_coder
from stepsound.couples import couple_of, graph_from, led_states, ranks_in, ring_from, row_apart
from stepsound.errors import BadPaper, OutOfPlace
from stepsound.kinds import is_between, is_code, is_state, is_tuple_of_codes, need_few_states, need_row, need_state
from stepsound.moves import all_states, state_behind, state_behind_row
from stepsound.papers import couple_behind, need_form, need_ranks, need_ring

KINDS = ("lost", "twice", "other")
DAMAGES = (("lost", 2), ("twice", 2), ("other", 3))
FORMS = (("heals", 3), ("fails", 5))


def received(coder, row, damage):
    """The tuple of the codes of a row that are received behind a damage."""
    _need_damage(coder, row, damage)
    index = damage[1]
    return row[:index] + _received_codes(damage[0], _codes_of(row, damage)) + row[index + 1:]


def healed(coder, row, damage, *, state=(0, 0)):
    """The least number of codes behind a damage that heal it, None if the row does not."""
    _need_damage(coder, row, damage)
    need_state(coder, state)
    index = damage[1]
    ahead = state_behind_row(coder, row[:index], state)
    speaker, hearer = _states_behind(coder, damage[0], ahead, _codes_of(row, damage))
    for many, code in enumerate(row[index + 1:]):
        if speaker == hearer:
            return many
        speaker = state_behind(coder, speaker, code)
        hearer = state_behind(coder, hearer, code)
    return len(row) - index - 1 if speaker == hearer else None


def healing(coder, kind):
    """The paper of a kind of damage: whether it heals in all states."""
    _need_kind(coder, kind)
    left = _couples_left(coder, kind)
    graph = graph_from(led_states(coder), list(left))
    ranks = ranks_in(graph)
    for couple in left:
        if couple not in ranks:
            return ("fails",) + left[couple] + ring_from(graph, ranks, couple)
    return "heals", tuple(sorted(ranks.items())), _worst_of(graph, ranks, left)


def check_healing(coder, kind, paper):
    """The word of a paper of a kind of damage; refuse a paper that proves nothing."""
    _need_kind(coder, kind)
    need_form(paper, FORMS)
    if paper[0] == "heals":
        _check_heals(coder, kind, paper)
    else:
        _check_fails(coder, kind, paper)
    return paper[0]


def _need_damage(coder, row, thing):
    """Refuse what is no coder, no row of it or no damage of the row, in this order."""
    need_coder(coder)
    need_row(coder, row)
    if not _is_damage(coder, row, thing):
        raise OutOfPlace("no damage of the row")


def _is_damage(coder, row, thing):
    if not isinstance(thing, tuple) or len(thing) == 0 or not isinstance(thing[0], str):
        return False
    if (thing[0], len(thing)) not in DAMAGES or not is_between(thing[1], 0, len(row) - 1):
        return False
    return thing[0] != "other" or is_code(coder, thing[2]) and thing[2] != row[thing[1]]


def _need_kind(coder, thing):
    """Refuse what is no coder, one with too many states, or what is no kind, in this order."""
    need_coder(coder)
    need_few_states(coder, 256)
    if not isinstance(thing, str) or thing not in KINDS:
        raise OutOfPlace("no kind of damage")


def _codes_of(row, damage):
    """The CODES of a damage of a row."""
    return (row[damage[1]],) + damage[2:]


def _received_codes(kind, codes):
    """The codes that are received in the place of the first of CODES."""
    if kind == "lost":
        return ()
    if kind == "twice":
        return codes + codes
    return codes[1:]


def _states_behind(coder, kind, state, codes):
    """The speaker's state and the hearer's behind a damage in a state."""
    return state_behind(coder, state, codes[0]), state_behind_row(coder, _received_codes(kind, codes), state)


def _all_codes(coder, kind):
    """The list of all CODES of a kind."""
    many = len(coder[3])
    if kind == "other":
        return [(code, other) for code in range(many) for other in range(many) if code != other]
    return [(code,) for code in range(many)]


def _are_codes(coder, kind, thing):
    """True if the thing is CODES of a kind."""
    if not is_tuple_of_codes(coder, thing):
        return False
    if kind == "other":
        return len(thing) == 2 and thing[0] != thing[1]
    return len(thing) == 1


def _couples_left(coder, kind):
    """Each couple that some damage of a kind leaves, with the STATE and the CODES of the first one."""
    left = {}
    for state in all_states(coder):
        for codes in _all_codes(coder, kind):
            speaker, hearer = _states_behind(coder, kind, state, codes)
            couple = couple_of(speaker, hearer)
            if couple is not None and couple not in left:
                left[couple] = (state, codes)
    return left


def _worst_of(graph, ranks, left):
    """The WORST of a kind that heals, LEFT being the couples that its damages leave."""
    if not left:
        return None
    worst = max(list(left), key=lambda couple: ranks[couple])
    state, codes = left[worst]
    return state, codes, row_apart(graph, ranks, worst)


def _check_heals(coder, kind, paper):
    ranks, worst = paper[1:]
    listed = need_ranks(coder, led_states(coder), ranks)
    left = _couples_left(coder, kind)
    if not all([couple in listed for couple in left]):
        raise BadPaper("ranks", len(ranks))
    if not left:
        if worst is not None:
            raise BadPaper("worst", None)
        return
    if not isinstance(worst, tuple) or len(worst) != 3:
        raise BadPaper("worst", None)
    _need_damage_told(coder, kind, worst[0], worst[1])
    greatest = max([listed[couple] for couple in left])
    _check_worst(coder, kind, worst, greatest)


def _check_worst(coder, kind, worst, greatest):
    """Refuse a ROW that does not show that the GREATEST rank is needed."""
    state, codes, row = worst
    if not is_tuple_of_codes(coder, row) or len(row) != greatest - 1:
        raise BadPaper("worst", None)
    speaker, hearer = _states_behind(coder, kind, state, codes)
    if couple_behind(coder, row, speaker, hearer) is None:
        raise BadPaper("worst", None)


def _check_fails(coder, kind, paper):
    state, codes, lead, ring = paper[1:]
    _need_damage_told(coder, kind, state, codes)
    speaker, hearer = _states_behind(coder, kind, state, codes)
    need_ring(coder, speaker, hearer, lead, ring)


def _need_damage_told(coder, kind, state, codes):
    """Refuse what is no STATE, or are no CODES of the kind."""
    if not is_state(coder, state) or not _are_codes(coder, kind, codes):
        raise BadPaper("codes", None)
