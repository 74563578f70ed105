"""What papers about couples must show: [7], [10].

The coder and the states here are known to be right; the things of a paper may
be anything.
"""

from stepsound.couples import couple_of, followers_of
from stepsound.errors import BadPaper
from stepsound.kinds import is_couple, is_integer, is_pair, is_tuple_of_codes
from stepsound.moves import state_behind_row


def need_form(paper, forms):
    """Refuse what is no tuple of one of the words and as many things as it has in FORMS."""
    if not isinstance(paper, tuple) or len(paper) == 0 or not isinstance(paper[0], str):
        raise BadPaper("form", None)
    if (paper[0], len(paper)) not in forms:
        raise BadPaper("form", None)


def need_ranks(coder, led, ranks):
    """Refuse what are no RANKS, whatever must be listed in them; return the dict of them."""
    if not isinstance(ranks, tuple):
        raise BadPaper("ranks", None)
    for index, thing in enumerate(ranks):
        if not _is_ranked(coder, thing) or index > 0 and thing[0] <= ranks[index - 1][0]:
            raise BadPaper("ranks", index)
    listed = {couple: rank for couple, rank in ranks}
    for index, (couple, rank) in enumerate(ranks):
        for follower in followers_of(led, couple):
            if follower is not None and (follower not in listed or listed[follower] >= rank):
                raise BadPaper("ranks", index)
    return listed


def need_couples(coder, led, couples):
    """Refuse what are no COUPLES, whatever must be listed in them; return a dict with them as keys."""
    if not isinstance(couples, tuple):
        raise BadPaper("couples", None)
    for index, thing in enumerate(couples):
        if not is_couple(coder, thing) or index > 0 and thing <= couples[index - 1]:
            raise BadPaper("couples", index)
    listed = {couple: True for couple in couples}
    for index, couple in enumerate(couples):
        if not all([follower in listed for follower in followers_of(led, couple)]):
            raise BadPaper("couples", index)
    return listed


def need_ring(coder, one, other, lead, ring):
    """Refuse a LEAD and a RING that do not keep two states apart."""
    if not is_tuple_of_codes(coder, lead) or not is_tuple_of_codes(coder, ring) or len(ring) == 0:
        raise BadPaper("ring", None)
    ahead = couple_behind(coder, lead, one, other)
    if ahead is None or couple_behind(coder, ring, ahead[0], ahead[1]) != ahead:
        raise BadPaper("ring", None)


def couple_behind(coder, row, one, other):
    """The couple to which a row leads two states, None if it brings them together."""
    return couple_of(state_behind_row(coder, row, one), state_behind_row(coder, row, other))


def _is_ranked(coder, thing):
    """True if the thing is a pair of a couple and a rank."""
    return is_pair(thing) and is_couple(coder, thing[0]) and is_integer(thing[1]) and thing[1] >= 1
