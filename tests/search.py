"""[7] to [10] and [16] told a second time, by searches through everything, without the package."""

from random import Random

from tests.things import is_told_code, is_told_couple, is_told_state, states, told_row, told_step


def few_coders(many):
    """Coders with few states, always the same ones."""
    rng = Random(77)
    for _ in range(many):
        yield (
            -rng.randint(0, 3), rng.randint(0, 3),
            tuple(rng.choice((1, 4, 8, 8, 16, 24)) for _ in range(rng.choice((1, 1, 2, 3)))),
            tuple((rng.choice((-32, -16, -8, -8, -4, 0, 4, 8, 8, 16, 32)), rng.choice((-15, -1, 0, 0, 1, 2)))
                  for _ in range(rng.choice((2, 2, 3, 4)))),
            rng.choice((0, 0, 0, 2, 3)),
        )


def told_couple(one, other):
    return None if one == other else tuple(sorted((one, other)))


def behind(coder, row, couple):
    """The couple to which a row leads two states, None if it brings them together."""
    return told_couple(*[told_row(coder, row, state)[1] for state in couple])


class Search:
    """All couples of a coder, and what becomes of them."""

    def __init__(self, coder):
        self.coder = coder
        self.states = states(coder)
        self.codes = range(len(coder[3]))
        self.led = {state: [told_step(coder, state, code)[1] for code in self.codes] for state in self.states}
        self.couples = [(one, other) for one in self.states for other in self.states if one < other]
        self.after = {couple: [told_couple(self.led[couple[0]][code], self.led[couple[1]][code])
                               for code in self.codes] for couple in self.couples}
        self.ranks = self.rounds(all)
        self.near = self.rounds(any)

    def rounds(self, which):
        """The least number of codes for which all rows, or any, bring a couple together."""
        found = {None: 0}
        while True:
            fresh = [couple for couple in self.couples
                     if couple not in found and which(after in found for after in self.after[couple])]
            if not fresh:
                del found[None]
                return found
            found.update(dict.fromkeys(fresh, max(found.values()) + 1))

    def word(self, couple):
        if couple is None or couple in self.ranks:
            return "always"
        return "sometimes" if couple in self.near else "never"

    def first_row(self, couple):
        """The first of the shortest rows that bring a couple together, or None."""
        if couple is not None and couple not in self.near:
            return None
        row = ()
        while couple is not None:
            near = [0 if after is None else self.near.get(after) for after in self.after[couple]]
            row += (near.index(self.near[couple] - 1),)
            couple = self.after[couple][row[-1]]
        return row

    def reached(self, couples):
        """The sorted list of the couples to which rows lead, these too."""
        found = set(couples)
        size = -1
        while size < len(found):
            size = len(found)
            found |= {after for couple in found for after in self.after[couple] if after is not None}
        return sorted(found)

    def all_codes(self, kind):
        if kind == "other":
            return [(one, other) for one in self.codes for other in self.codes if one != other]
        return [(code,) for code in self.codes]

    def left(self, kind, state, codes):
        """The couple that a damage leaves, or None."""
        speaker = self.led[state][codes[0]]
        hearer = {"lost": state, "twice": self.led[speaker][codes[0]], "other": self.led[state][codes[-1]]}[kind]
        return told_couple(speaker, hearer)

    def all_left(self, kind):
        """The set of the couples that the damages of a kind leave."""
        found = {self.left(kind, state, codes) for state in self.states for codes in self.all_codes(kind)}
        return found - {None}


def fault_of_ranks(search, ranks, wanted):
    """The (part, number) of the first fault of RANKS in which the wanted couples must be listed, or None."""
    if type(ranks) is not tuple:
        return "ranks", None
    ahead = None
    for index, thing in enumerate(ranks):
        if type(thing) is not tuple or len(thing) != 2 or not is_told_couple(search.coder, thing[0]):
            return "ranks", index
        if type(thing[1]) is not int or thing[1] < 1 or ahead is not None and not ahead < thing[0]:
            return "ranks", index
        ahead = thing[0]
    listed = dict(ranks)
    for index, (couple, rank) in enumerate(ranks):
        for after in search.after[couple]:
            if after is not None and not (after in listed and listed[after] < rank):
                return "ranks", index
    return None if all(couple in listed for couple in wanted) else ("ranks", len(ranks))


def fault_of_couples(search, couples, wanted):
    if type(couples) is not tuple:
        return "couples", None
    for index, thing in enumerate(couples):
        if not is_told_couple(search.coder, thing) or index and not couples[index - 1] < thing:
            return "couples", index
    for index, couple in enumerate(couples):
        if set(search.after[couple]) - set(couples):
            return "couples", index
    return None if wanted in couples else ("couples", len(couples))


def are_codes(search, thing):
    return type(thing) is tuple and all(is_told_code(search.coder, code) for code in thing)


def is_ring(search, couple, lead, ring):
    if not are_codes(search, lead) or not are_codes(search, ring) or ring == () or couple is None:
        return False
    ahead = behind(search.coder, lead, couple)
    return ahead is not None and behind(search.coder, ring, ahead) == ahead


def verdict_together(search, one, other, paper):
    """The word of a paper of two states, or the (part, number) of its first fault."""
    sizes = {"always": 3, "sometimes": 4, "never": 2}
    if type(paper) is not tuple or not paper or type(paper[0]) is not str or sizes.get(paper[0]) != len(paper):
        return "form", None
    couple = told_couple(one, other)
    if paper[0] == "never":
        return fault_of_couples(search, paper[1], couple) or "never"
    if paper[0] == "always":
        ranks, row = paper[1:]
        if couple is None:
            if type(ranks) is not tuple or ranks:
                return "ranks", (0 if type(ranks) is tuple else None)
            return "always" if type(row) is tuple and not row else ("row", None)
        fault = fault_of_ranks(search, ranks, [couple])
        if fault:
            return fault
        right = are_codes(search, row) and len(row) == dict(ranks)[couple] - 1
        return "always" if right and behind(search.coder, row, couple) is not None else ("row", None)
    row, lead, ring = paper[1:]
    if not are_codes(search, row) or behind(search.coder, row, (one, other)) is not None:
        return "row", None
    return "sometimes" if is_ring(search, couple, lead, ring) else ("ring", None)


def verdict_healing(search, kind, paper):
    """The word of a paper of a kind of damage, or the (part, number) of its first fault."""
    sizes = {"heals": 3, "fails": 5}
    if type(paper) is not tuple or not paper or type(paper[0]) is not str or sizes.get(paper[0]) != len(paper):
        return "form", None
    if paper[0] == "fails":
        if not is_told_state(search.coder, paper[1]) or not is_told_codes_of(search, kind, paper[2]):
            return "codes", None
        couple = search.left(kind, paper[1], paper[2])
        return "fails" if is_ring(search, couple, paper[3], paper[4]) else ("ring", None)
    ranks, worst = paper[1:]
    left = search.all_left(kind)
    fault = fault_of_ranks(search, ranks, left)
    if fault:
        return fault
    if not left:
        return "heals" if worst is None else ("worst", None)
    if type(worst) is not tuple or len(worst) != 3:
        return "worst", None
    state, codes, row = worst
    if not is_told_state(search.coder, state) or not is_told_codes_of(search, kind, codes):
        return "codes", None
    couple = search.left(kind, state, codes)
    if not are_codes(search, row) or couple is None or behind(search.coder, row, couple) is None:
        return "worst", None
    return "heals" if max(dict(ranks)[one] for one in left) == len(row) + 1 else ("worst", None)


def is_told_codes_of(search, kind, thing):
    return are_codes(search, thing) and thing in search.all_codes(kind)


def rows_from(coder, one):
    """For each state that rows reach, the first of the shortest rows, by growing all rows code by code."""
    found = {one: ()}
    rows = {(): one}
    while rows:
        longer = {row + (code,): told_step(coder, state, code)[1]
                  for row, state in rows.items() for code in range(len(coder[3]))}
        rows = {}
        for row in sorted(longer):
            if longer[row] not in found:
                found[longer[row]] = row
                rows[row] = longer[row]
    return found


def told_seam(coder, one, row, state):
    samples = told_row(coder, row, state)[0]
    rows = [way for other, way in rows_from(coder, one).items() if told_row(coder, row, other)[0] == samples]
    return min(rows, key=lambda way: (len(way), way), default=None)


def spoiled(rng, thing, wrong):
    """The thing with something in it, at any depth, exchanged, left out, put twice or put elsewhere."""
    if type(thing) is int and rng.random() < 0.6:
        return thing + rng.choice((-1, 1))
    if type(thing) is not tuple or not thing or rng.random() < 0.08:
        return rng.choice(wrong)
    index = rng.randrange(len(thing))
    way = rng.randrange(10)
    if way == 0:
        return thing[:index] + thing[index + 1:]
    if way == 1:
        return thing[:index + 1] + thing[index:]
    if way == 2:
        other = rng.randrange(len(thing))
        things = list(thing)
        things[index], things[other] = things[other], things[index]
        return tuple(things)
    return thing[:index] + (spoiled(rng, thing[index], wrong),) + thing[index + 1:]
