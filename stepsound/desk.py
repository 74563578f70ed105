"""A desk, which edits a clip by steps: [18]."""

from stepsound.clips import Clip
from stepsound.edits import edit_of, edited, opposite_of, report_of
from stepsound.errors import Nothing, OutOfPlace
from stepsound.moves import samples_along


class Desk:
    """A clip that is edited by steps, which can be undone and done again."""

    def __init__(self, clip):
        if not isinstance(clip, Clip):
            raise OutOfPlace("no clip")
        self._first = clip.copy()
        self._codes = clip.codes
        self._state = clip.state
        # Pairs of a step and its edit, those that stand and those that can be done again.
        self._done = []
        self._undone = []
        self._tries = 0

    def do(self, step):
        """Do a step, and return its report."""
        self._tries = self._tries + 1
        return self._do_each([step])[0]

    def do_all(self, steps):
        """Do the steps of a list or a tuple one behind the other, or none of them; return their reports."""
        self._tries = self._tries + 1
        if not isinstance(steps, (list, tuple)):
            raise OutOfPlace("no list and no tuple of steps")
        return self._do_each(list(steps))

    def undo(self):
        """Undo the last step that stands, and return it."""
        self._tries = self._tries + 1
        if len(self._done) == 0:
            raise Nothing("no step to undo")
        step, edit = self._done.pop()
        self._undone.append((step, edit))
        self._follow(opposite_of(edit))
        return step

    def redo(self):
        """Do the last step again that was undone, and return it."""
        self._tries = self._tries + 1
        if len(self._undone) == 0:
            raise Nothing("no step to do again")
        step, edit = self._undone.pop()
        self._done.append((step, edit))
        self._follow(edit)
        return step

    def clip(self):
        """The clip as it stands."""
        return Clip(self._first.coder, self._codes, state=self._state)

    def heard(self):
        """The tuple of the samples of the clip as it stands."""
        return tuple(samples_along(self._first.coder, self._codes, self._state))

    def steps(self):
        """The list of the steps that stand."""
        return [step for step, _ in self._done]

    def tries(self):
        """How many calls of do, do_all, undo and redo were begun."""
        return self._tries

    def copy(self):
        """A desk that goes on by itself, with all that can be undone and done again."""
        other = Desk(self._first)
        other._codes = self._codes
        other._state = self._state
        other._done = list(self._done)
        other._undone = list(self._undone)
        other._tries = self._tries
        return other

    def __len__(self):
        return len(self._done)

    def __eq__(self, other):
        if not isinstance(other, Desk) or self._first != other._first:
            return False
        return [step for step, _ in self._done] == [step for step, _ in other._done]

    def _do_each(self, steps):
        """Do steps; the desk is changed only when none of them has been refused."""
        coder = self._first.coder
        codes, state = self._codes, self._state
        before = self.heard()
        done, reports = [], []
        for step in steps:
            edit = edit_of(coder, codes, state, step)
            codes, state = edited(codes, edit), edit[4]
            after = tuple(samples_along(coder, codes, state))
            done.append((step, edit))
            reports.append(report_of(before, after))
            before = after
        if done:
            self._done.extend(done)
            self._undone = []
            self._codes, self._state = codes, state
        return reports

    def _follow(self, edit):
        """Let the clip stand as it does behind an edit."""
        self._codes = edited(self._codes, edit)
        self._state = edit[4]
