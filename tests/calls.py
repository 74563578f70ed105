"""Each call of the interface with right arguments, and with what is refused of each of them: [1]."""

from stepsound import alike, blocks, clips, coders, damage, desk, following, hearers, hearing, maps, repeats, seams
from stepsound import speaking, texts, together
from stepsound.errors import BadByte, BadCoder, BadPaper, BadRow, OutOfPlace
from tests.things import SMALL, TINY, coder_with

# Which error refuses what no argument of the name can be, and what of the fields is always the same.
ERRORS = {
    "coder": (BadCoder, {"part": "form", "number": None}), "row": (BadRow, {"row": 0, "word": 0}),
    "codes": (BadRow, {"row": 0, "word": 0}), "text": (BadRow, {"row": 0, "word": 0}),
    "paper": (BadPaper, {"part": "form", "number": None}), "prices": (BadPaper, {"part": "prices", "number": None}),
    "data": (BadByte, {"number": None}),
}
OUT_OF_PLACE = "code place state times number damage kind signal bound many size one two other begin end step steps clip"
ERRORS.update(dict.fromkeys(OUT_OF_PLACE.split(), (OutOfPlace, {})))
# Arguments that are checked behind all others.
LAST = ("paper", "prices")

ONE, TWO = (-1, 0), (1, 0)
SIGNAL = (1, -3, 2)
BEST = speaking.best_row(TINY, SIGNAL, state=TWO)
# (CALL, ARGUMENTS, STATE or None, the most states or None)
CALLS = (
    (coders.states_of, {"coder": SMALL}, None, 4096),
    (coders.change_of, {"coder": SMALL, "code": 3, "place": 1}, None, None),
    (coders.led_to, {"coder": SMALL, "state": (6, 2), "code": 0}, None, None),
    (texts.coder_text, {"coder": SMALL}, None, None),
    (texts.row_text, {"coder": SMALL, "row": (0, 3)}, None, None),
    (texts.read_row, {"coder": SMALL, "text": "0 3"}, None, None),
    (hearing.heard, {"coder": SMALL, "row": (2, 2)}, (1, 1), None),
    (hearing.last_state, {"coder": SMALL, "row": (2, 2)}, (1, 1), None),
    (repeats.settling, {"coder": SMALL, "row": (2, 1)}, (1, 1), 4096),
    (repeats.last_of, {"coder": SMALL, "row": (2, 1), "times": 3}, (1, 1), 4096),
    (repeats.sample_at, {"coder": SMALL, "row": (2, 1), "number": 3}, (1, 1), 4096),
    (maps.row_map, {"coder": SMALL, "row": (2, 1), "place": 0}, None, 4096),
    (maps.limits_of, {"coder": SMALL, "row": (2, 1), "place": 0}, None, None),
    (together.together, {"coder": TINY, "one": ONE, "other": TWO}, None, 256),
    (together.check_together, {"coder": TINY, "one": ONE, "other": TWO,
                               "paper": together.together(TINY, ONE, TWO)}, None, 256),
    (together.joining_row, {"coder": TINY, "one": ONE, "other": TWO}, None, 256),
    (together.merging_row, {"coder": TINY, "place": 0}, None, 256),
    (damage.received, {"coder": SMALL, "row": (2, 1), "damage": ("lost", 1)}, None, None),
    (damage.healed, {"coder": SMALL, "row": (2, 1), "damage": ("other", 0, 3)}, (1, 1), None),
    (damage.healing, {"coder": TINY, "kind": "lost"}, None, 256),
    (damage.check_healing, {"coder": TINY, "kind": "other", "paper": damage.healing(TINY, "other")}, None, 256),
    (alike.alike, {"coder": TINY, "other": TINY, "one": ONE, "two": TWO}, None, 256),
    (alike.check_alike, {"coder": TINY, "other": TINY, "one": ONE, "two": TWO,
                         "paper": alike.alike(TINY, TINY, ONE, TWO)}, None, 256),
    (alike.classes, {"coder": TINY}, None, 256),
    (speaking.error_of, {"coder": TINY, "signal": SIGNAL, "row": (0, 1, 0)}, TWO, None),
    (speaking.greedy_row, {"coder": TINY, "signal": SIGNAL}, TWO, None),
    (speaking.best_row, {"coder": TINY, "signal": SIGNAL}, TWO, 256),
    (speaking.check_best, {"coder": TINY, "signal": SIGNAL, "row": BEST[0], "prices": BEST[2]}, TWO, 256),
    (following.followed, {"coder": TINY, "signal": SIGNAL, "bound": 1}, TWO, 256),
    (following.check_followed, {"coder": TINY, "signal": SIGNAL, "bound": 1,
                                "paper": following.followed(TINY, SIGNAL, 1, state=TWO)}, TWO, 256),
    (following.greatest_loss, {"coder": TINY, "many": 2}, TWO, 32),
    (seams.reached, {"coder": TINY, "one": ONE}, None, 4096),
    (seams.row_to, {"coder": TINY, "one": ONE, "other": TWO}, None, 4096),
    (seams.seam, {"coder": TINY, "one": ONE, "row": (0,)}, TWO, 4096),
    (clips.Clip, {"coder": SMALL, "codes": (0, 3)}, (1, 1), None),
    (hearers.Hearer, {"coder": SMALL}, (1, 1), None),
    (blocks.file_of, {"coder": SMALL, "row": (0, 3), "size": 1}, (1, 1), None),
    (blocks.read_file, {"coder": SMALL, "data": blocks.file_of(SMALL, (0, 3), 1, state=(1, 1))}, None, None),
    (blocks.sample_in, {"coder": SMALL, "data": blocks.file_of(SMALL, (0, 3), 1), "number": 1}, None, None),
    (blocks.salvage, {"coder": SMALL, "data": blocks.file_of(SMALL, (0, 3), 1)}, None, None),
)
# Calls of objects: (what makes one, the method's name, ARGUMENTS).
METHODS = (
    (lambda: clips.Clip(SMALL, (2, 0)), "stretch", {"begin": 0, "end": 1}),
    (lambda: clips.Clip(SMALL, (2, 0)), "begins", {"other": clips.Clip(SMALL, (2,))}),
    (lambda: hearers.Hearer(SMALL), "__call__", {"code": 1}),
    (lambda: hearers.Hearer(SMALL), "jump", {"state": (1, 1)}),
    (lambda: desk.Desk(clips.Clip(SMALL, (2, 0))), "do", {"step": ("put", 0, 1)}),
    (lambda: desk.Desk(clips.Clip(SMALL, (2, 0))), "do_all", {"steps": [("put", 0, 1), ("cut", 0, 2)]}),
)


def error_of_argument(call, name):
    """(ERROR, FIELDS) of a wrong argument of a call."""
    if name == "other" and call in (alike.alike, alike.check_alike):
        return ERRORS["coder"]
    return ERRORS[name]


def too_great(most):
    """A coder with one state more."""
    return coder_with(most + 1)
