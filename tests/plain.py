"""[18] told a second time: a desk that hears all codes again and again; and what a desk tells."""

from stepsound.errors import Nothing
from tests.things import told_row


def standing(desk):
    """All that a desk tells but its tries, and what can be done again."""
    again = desk.copy()
    redone = []
    for _ in range(99):
        try:
            redone.append(again.redo())
        except Nothing:
            break
    clip = desk.clip()
    return clip.coder, clip.codes, clip.state, desk.heard(), desk.steps(), len(desk), redone


def told_report(before, after):
    most = min(len(before), len(after))
    first = max(many for many in range(most + 1) if before[:many] == after[:many])
    old, new = before[first:], after[first:]
    ends = [many for many in range(most - first + 1) if old[len(old) - many:] == new[len(new) - many:]]
    return first, old[:len(old) - ends[-1]], new[:len(new) - ends[-1]]


def steps_of(rng, coder, codes):
    """A step of each kind that can be done, not always the same ones."""
    many, code = len(codes), rng.randrange(len(coder[3]))
    steps = [("put", rng.randint(0, many), code)]
    steps.append(("from", (rng.randint(coder[0], coder[1]), rng.randrange(len(coder[2])))))
    if many:
        begin = rng.randrange(many)
        steps.append(("set", rng.randrange(many), code))
        steps.append(("cut", begin, rng.randint(begin + 1, min(many, begin + 3))))
    return steps


class PlainDesk:
    """Knows the clip that it began with and the steps, and does all of them whenever it is asked."""

    def __init__(self, clip):
        self.coder = clip.coder
        self.first = list(clip.codes), clip.state
        self.done = []
        self.undone = []
        self.codes, self.state = self.behind_steps()

    def behind_steps(self):
        codes, state = list(self.first[0]), self.first[1]
        for step in self.done:
            if step[0] == "put":
                codes.insert(step[1], step[2])
            elif step[0] == "set":
                codes[step[1]] = step[2]
            elif step[0] == "cut":
                del codes[step[1]:step[2]]
            else:
                state = step[1]
        return tuple(codes), state

    def heard(self):
        return told_row(self.coder, self.codes, self.state)[0]

    def do(self, step):
        before = self.heard()
        self.done.append(step)
        self.undone = []
        self.codes, self.state = self.behind_steps()
        return told_report(before, self.heard())

    def undo(self):
        self.undone.append(self.done.pop())
        self.codes, self.state = self.behind_steps()
        return self.undone[-1]

    def redo(self):
        self.done.append(self.undone.pop())
        self.codes, self.state = self.behind_steps()
        return self.done[-1]

    def standing(self):
        """As the function of this name tells it of a desk."""
        return self.coder, self.codes, self.state, self.heard(), self.done, len(self.done), self.undone[::-1]
