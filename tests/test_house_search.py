"""The house against a second, slow one, by steps made by chance."""

import copy
import random
import unittest

from openruns.errors import InvalidProgram, OpenError
from openruns.house import House
from openruns.programs import Program
from tests.made import ASKS, FEW_SIGNALS, changed_program, round_program, small_program
from tests.model import ModelFalls, ModelNote
from tests.search import note_words
from tests.test_editions import LiveBehind, told_by, world_behind
from tests.test_search import Counted, tokens_of

NAMES = ("a", "b", "c")


class Wrong(Exception):
    """What the slow house raises: the name of an error, and its attributes."""


def live_turn(program, turns, token, notes):
    """The turn behind others that a program reads, as ("kept", turn), ("falls", word, path) or ("note", at)."""
    if turns:
        world = world_behind(program, turns)
    else:
        world = LiveBehind(program)
        world.live = True
    before = len(world.history)
    try:
        world.turn(token, notes)
    except ModelFalls as fall:
        return ("falls",) + fall.args
    except ModelNote as note:
        return ("note",) + note.args
    return ("kept", tuple(world.history[before:]))


def is_over(run):
    return run["turns"][-1][-1][0] in ("ended", "anew")


def running(tokens):
    """The open things of a history, counted anew."""
    things = [token for token in tokens if token[0] in ("asked", "set")]
    gone = [token[1] for token in tokens if token[0] in ("answer", "rang", "dropped")]
    return {number: thing[0] for number, thing in enumerate(things) if number not in gone}


class SlowHouse:
    def __init__(self, program):
        self.edition = program
        self.runs = {}

    def told(self):
        return {name: (tokens_of(run["turns"]), run["tail"], run["past"]) for name, run in self.runs.items()}

    def still(self):
        return [(name, self.runs[name]["cause"]) for name in sorted(self.runs) if self.runs[name]["cause"]]

    def run_of(self, name):
        if name not in self.runs:
            raise Wrong("NoRun", {"name": name})
        return self.runs[name]

    def begin(self, name, word, notes, past=()):
        if not past and name in self.runs:
            raise Wrong("Taken", {"name": name})
        if word not in self.edition.inputs():
            raise Wrong("InvalidArgument", {"part": "word"})
        told = live_turn(self.edition, (), ("begin", word), notes)
        self.raise_for(told)
        self.runs[name] = {"turns": [told[1]], "tail": [], "past": list(past), "cause": None}
        return list(told[1][1:])

    def raise_for(self, told):
        if told[0] == "falls":
            raise Wrong("Falls", {"word": told[1], "path": told[2]})
        if told[0] == "note":
            raise Wrong("InvalidNote", {"at": told[1]})

    def tell(self, name, token, notes):
        run = self.run_of(name)
        if run["cause"]:
            return self.tell_still(run, token, notes)
        if is_over(run) or token not in world_behind(self.edition, run["turns"]).outer():
            raise Wrong("InvalidArgument", {"part": "token"})
        told = live_turn(self.edition, run["turns"], token, notes)
        if told[0] == "falls":
            run["tail"], run["cause"] = [(token, tuple(notes))], ("falls", told[1])
            return None
        self.raise_for(told)
        run["turns"].append(told[1])
        return list(told[1][1:])

    def tell_still(self, run, token, notes):
        if token[0] != "signal":
            kind = "asked" if token[0] == "answer" else "set"
            if running(tokens_of(run["turns"])).get(token[1]) != kind or token[1] in [other[1] for other, _ in run["tail"]]:
                raise Wrong("InvalidArgument", {"part": "token"})
        if len(run["tail"]) == 60:
            raise Wrong("LimitExceeded", {"limit": 60})
        run["tail"].append((token, tuple(notes)))

    def again(self, name, notes):
        run = self.run_of(name)
        if run["turns"][-1][-1][0] != "anew":
            raise Wrong("InvalidArgument", {"part": "name"})
        return self.begin(name, run["turns"][-1][-1][1], notes, run["past"] + [tokens_of(run["turns"])])

    def rewind(self, name, many):
        run = self.run_of(name)
        if not 1 <= many <= len(run["turns"]):
            raise Wrong("InvalidArgument", {"part": "turns"})
        told = told_by(self.edition, run["turns"][:many])
        if told[0] == "breaks":
            raise Wrong("Breaks", {"at": told[1], "word": told[2]})
        cut = tokens_of(run["turns"][many:])
        run["turns"], run["tail"], run["cause"] = run["turns"][:many], [], None
        return cut

    def take_out(self, name):
        run = self.run_of(name)
        del self.runs[name]
        return tokens_of(run["turns"])

    def set_edition(self, program):
        self.edition = program
        for run in self.runs.values():
            if not is_over(run):
                told = told_by(program, run["turns"])
                run["cause"] = told if told[0] == "breaks" else self.work_off(run)

    def work_off(self, run):
        while run["tail"]:
            token, notes = run["tail"][0]
            world = world_behind(self.edition, run["turns"])
            outer = world.outer()
            if token[0] != "signal" and token[1] not in [other[1] for other in outer if other[0] != "signal"]:
                run["tail"].pop(0)
                continue
            if token not in outer:
                words = self.edition.signals().get(token[1], (0, ()))[1] if token[0] == "signal" else ()
                return ("full",) if token[0] == "signal" and token[2] in words else ("word",)
            told = live_turn(self.edition, run["turns"], token, notes)
            if told[0] != "kept":
                return told[:2]
            run["turns"].append(told[1])
            run["tail"].pop(0)
            if is_over(run):
                run["tail"].clear()
        return None


def falling_program(chance):
    """A program whose runs fall when their timer rings, and that has signals."""
    rows = [("timer", "a"), ("timer", "c"), ("await", "a", "x"), ("drop", "c"), ("await", "b", "x")]
    if chance.random() < 0.3:
        rows.insert(3, ("note", "y", ("yes", "no")))
    return Program(rows, asks=ASKS, signals=FEW_SIGNALS, inputs=("yes", "no"))


class HouseSearchTest(Counted):
    def test_steps_made_by_chance(self):
        for seed in range(500):
            chance = random.Random(seed)
            first = falling_program(chance) if seed % 5 == 1 else (round_program if seed % 5 == 0 else small_program)(chance, Program)
            programs = [first] + [changed_program(chance, first, InvalidProgram) for _ in range(4)]
            with self.subTest(seed=seed):
                house, slow = House(programs[0]), SlowHouse(programs[0])
                for _ in range(30):
                    slow = self.step(chance, house, slow, programs, 0)
        self.assert_seen("NoRun", "Taken", "Falls", "InvalidNote", "InvalidArgument", "Breaks", "begin", "tell", "again", "rewind", "take_out", "set",
                         "trial", "outlook", "nested", "error in a trial", "in the tail", "left the tail", "several in the tail", "anew",
                         *[("cause", word) for word in ("breaks", "word", "falls", "note", "full")])

    def outcome(self, call, *args):
        try:
            return call(*args)
        except OpenError as error:
            return (type(error).__name__, vars(error))
        except Wrong as wrong:
            return wrong.args

    def notes(self, chance, programs):
        words = note_words(programs[0]) + note_words(programs[1]) + ["other"]
        return chance.choice([(), [], tuple(chance.choice(words) for _ in range(3)), [chance.choice(words) for _ in range(4)]])

    def token(self, chance, slow, name):
        run = slow.runs.get(name)
        if run and not run["cause"] and not is_over(run) and chance.random() < 0.9:
            outer = world_behind(slow.edition, run["turns"]).outer()
            if outer:
                return chance.choice(outer)
        number = chance.choice(list(running(tokens_of(run["turns"]))) or [0]) if run and chance.random() < 0.7 else chance.randint(0, 4)
        return chance.choice([("answer", number, chance.choice(["yes", "no", "no", "more"])), ("rang", number), ("rang", number),
                              ("signal", "stop", "no"), ("signal", chance.choice(["stop", "call", "none"]), chance.choice(["no", "a", "more"]))])

    def step(self, chance, house, slow, programs, depth):
        name = chance.choice(NAMES)
        kind = chance.choices(["begin", "tell", "again", "rewind", "take_out", "set", "trial", "outlook"], [3, 12, 2, 1, 0.5, 3, 0.7, 0.7])[0]
        self.see(kind)
        before = {one: list(run["tail"]) for one, run in slow.runs.items()}
        notes = self.notes(chance, programs)
        if kind == "trial":
            self.trial(chance, house, slow, programs, depth)
        elif kind == "outlook":
            self.outlook(chance, house, slow, programs)
        else:
            self.compare_step(chance, house, slow, programs, kind, name, notes)
        self.assert_same(house, slow)
        for one, run in slow.runs.items():
            self.see("left the tail", len(run["tail"]) < len(before.get(one, [])))
            self.see("several in the tail", len(run["tail"]) > 1)
            if run["cause"]:
                self.see(("cause", run["cause"][0]))
        return slow

    def compare_step(self, chance, house, slow, programs, kind, name, notes):
        args = {"begin": (name, chance.choice(["no", "no", "yes", "more"]), notes), "tell": (name, self.token(chance, slow, name), notes), "again": (name, notes),
                "rewind": (name, chance.randint(0, 4)), "take_out": (name,), "set": (chance.choice(programs),)}[kind]
        told = self.outcome(getattr(house, "deploy" if kind == "set" else kind), *args)
        expected = self.outcome(getattr(slow, "set_edition" if kind == "set" else kind), *args)
        if kind == "set":
            expected = slow.still()
        self.assertEqual(told, expected)
        self.see("in the tail", told is None)
        self.see("anew", kind == "again" and isinstance(told, list))
        if isinstance(told, tuple):
            self.see(told[0])

    def trial(self, chance, house, slow, programs, depth):
        program = chance.choice(programs)
        inner = copy.deepcopy(slow)
        inner.set_edition(program)
        self.see("nested", depth > 0)
        try:
            with house.trial(program) as held:
                self.assertEqual(held.still_then, inner.still())
                for _ in range(chance.randint(0, 4)):
                    inner = self.step(chance, house, inner, programs, depth + 1)
                if chance.random() < 0.3:
                    house.tell("none", None)
        except OpenError:
            self.see("error in a trial")

    def outlook(self, chance, house, slow, programs):
        program = chance.choice(programs)
        inner = copy.deepcopy(slow)
        inner.set_edition(program)
        deeds = []
        expected = None
        for _ in range(chance.randint(0, 3)):
            name = chance.choice(list(slow.runs) or ["a"])
            deeds.append((name, self.token(chance, inner, name), self.notes(chance, programs)))
            told = self.outcome(inner.tell, *deeds[-1])
            expected = told if isinstance(told, tuple) and expected is None else expected
            if expected is not None:
                break
        self.assertEqual(self.outcome(house.outlook, program, deeds), inner.still() if expected is None else expected)

    def assert_same(self, house, slow):
        self.assertEqual({name: (house[name], house.tail(name), house.past(name)) for name in house.names()}, slow.told())
        self.assertEqual((house.names(), len(house)), (sorted(slow.runs), len(slow.runs)))
        self.assertEqual((house.edition, house.still()), (slow.edition, slow.still()))


if __name__ == "__main__":
    unittest.main()
