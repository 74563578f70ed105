"""Couples of states, and where rows lead them: [7].

A coder here has few states, and whatever is passed is known to be right. LED
is what led_states returns; a graph is a dict of couples with their followers.
"""

from stepsound.moves import all_states, state_behind
from stepsound.ways import row_along


def led_states(coder):
    """For each state the tuple of the states to which the codes lead it."""
    led = {}
    for state in all_states(coder):
        led[state] = tuple([state_behind(coder, state, code) for code in range(len(coder[3]))])
    return led


def couple_of(one, other):
    """The couple of two states, None if they are equal."""
    if one == other:
        return None
    return (one, other) if one < other else (other, one)


def followers_of(led, couple):
    """For each code the couple to which it leads a couple, None if it brings it together."""
    return [couple_of(one, other) for one, other in zip(led[couple[0]], led[couple[1]])]


def graph_from(led, couples):
    """The graph of all couples to which rows lead those of a list, these too."""
    graph = {}
    layer = couples
    while layer:
        fresh = []
        for couple in layer:
            if couple not in graph:
                graph[couple] = followers_of(led, couple)
                fresh.extend([follower for follower in graph[couple] if follower is not None])
        layer = fresh
    return graph


def ranks_in(graph):
    """The rank of each couple that all rows of some number of codes bring together."""
    waiting = {}
    leaders = {couple: [] for couple in graph}
    for couple in graph:
        followers = [follower for follower in graph[couple] if follower is not None]
        waiting[couple] = len(followers)
        for follower in followers:
            leaders[follower].append(couple)
    ranks = {}
    layer = [couple for couple in graph if waiting[couple] == 0]
    rank = 1
    while layer:
        fresh = []
        for couple in layer:
            ranks[couple] = rank
            for leader in leaders[couple]:
                waiting[leader] = waiting[leader] - 1
                # The last one of its followers that gets a rank has the greatest one.
                if waiting[leader] == 0:
                    fresh.append(leader)
        layer = fresh
        rank = rank + 1
    return ranks


def row_apart(graph, ranks, couple):
    """A row with one code less than the rank of a couple, which does not bring it together."""
    row = []
    now = couple
    while ranks[now] > 1:
        wanted = ranks[now] - 1
        codes = [code for code, after in enumerate(graph[now]) if after is not None and ranks[after] == wanted]
        row.append(codes[0])
        now = graph[now][codes[0]]
    return tuple(row)


def ring_from(graph, ranks, couple):
    """A lead and a ring that keep apart a couple without a rank."""
    reached = {}
    row = []
    now = couple
    while now not in reached:
        reached[now] = len(row)
        # A couple has no rank because one of its followers has none.
        codes = [code for code, after in enumerate(graph[now]) if after is not None and after not in ranks]
        row.append(codes[0])
        now = graph[now][codes[0]]
    begin = reached[now]
    return tuple(row[:begin]), tuple(row[begin:])


def row_joining(led, couple):
    """The first of the shortest rows that bring together a couple, None if there is none."""
    leaders = {couple: None}
    layer = [couple]
    # Each layer is in the order of its rows, so the first row that is found is the first one.
    while layer:
        fresh = []
        for leader in layer:
            for code, follower in enumerate(followers_of(led, leader)):
                if follower is None:
                    return row_along(leaders, leader) + (code,)
                if follower not in leaders:
                    leaders[follower] = (leader, code)
                    fresh.append(follower)
        layer = fresh
    return None
