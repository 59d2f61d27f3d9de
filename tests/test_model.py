"""Live turns against the model, for programs made by chance."""

import random
import unittest

from openruns.errors import Falls, InvalidNote
from openruns.programs import Program
from openruns.runs import Run
from tests.made import WORDS, made_program
from tests.model import ModelFalls, ModelNote, ModelRun


def outcome(call, *args):
    try:
        return ("kept", call(*args))
    except (Falls, ModelFalls) as error:
        return ("falls",) + ((error.word, error.path) if isinstance(error, Falls) else error.args)
    except (InvalidNote, ModelNote) as error:
        return ("note",) + ((error.at,) if isinstance(error, InvalidNote) else error.args)


def some_notes(chance):
    return [chance.choice(WORDS + ["no"] * 9) for _ in range(chance.choice([0, 3, 5, 5]))]


def count(seen, what):
    seen[what] = seen.get(what, 0) + 1


def count_outcome(seen, told):
    count(seen, told[:2] if told[0] == "falls" else told[0])


class ModelTest(unittest.TestCase):
    def compare(self, run, model, seen):
        world = model.world(model.turns)
        self.assertEqual(run.history(), world.history)
        self.assertEqual(run.outer(), world.outer())
        self.assertEqual(run.standing(), world.standing())
        self.assertEqual(run.over, world.closing is not None)
        count(seen, run.standing()[0])
        if not run.over:
            count(seen, ("waits", len(run.standing()[1])))

    def play(self, chance, program, seen):
        word, notes = chance.choice(["yes", "no"]), some_notes(chance)
        model = ModelRun.__new__(ModelRun)
        told = outcome(model.__init__, program, word, notes)
        made = outcome(Run, program, word, notes)
        count_outcome(seen, told)
        if told[0] != "kept":
            self.assertEqual(made, told)
            return
        run = made[1]
        for _ in range(12):
            self.compare(run, model, seen)
            if run.over:
                break
            outer = run.outer()
            if not outer:
                break
            token, notes = chance.choice(outer), some_notes(chance)
            told = outcome(model.tell, token, notes)
            forked = run.fork()
            self.assertEqual(outcome(forked.tell, token, notes), told)
            self.assertEqual(outcome(run, token, notes), told)
            self.assertEqual(forked.history(), run.history())
            count_outcome(seen, told)

    def test_programs_made_by_chance(self):
        seen = {}
        for seed in range(700):
            chance = random.Random(seed)
            program = made_program(chance, Program)
            with self.subTest(seed=seed):
                for _ in range(4):
                    self.play(chance, program, seen)
        falls = [("falls", word) for word in ("busy", "free", "long", "notes")]
        for what in ["kept", "at", "over", "anew", "note", ("waits", 1), ("waits", 2), ("waits", 3), ("waits", 4)] + falls:
            self.assertGreater(seen.get(what, 0), 3, what)


if __name__ == "__main__":
    unittest.main()
