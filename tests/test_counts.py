"""Counting histories, [8.1] to [8.4], and what the general rules say of it."""

import copy
import random
import unittest

from openruns.counts import history_at, how_many, place_of
from openruns.errors import InvalidArgument, InvalidHistory, LimitExceeded
from openruns.programs import Program
from openruns.reading import cut
from tests.helpers import Raises, all_odd_values
from tests.made import round_program, small_program
from tests.search import all_histories
from tests.test_search import KINDS, Counted, tokens_of

HEAD = [("timer", "t"), ("await", "t", "x")]
ASKED = [("ask", "pay", "a"), ("await", "a", "x"), ("end", "x")]
PAY = {"pay": ("no", "yes")}
ROUND = [("loop", [("ask", "pay", "a"), ("await", "a", "x")])]


def is_integer(value):
    return type(value) is int


class CountsTest(Raises, unittest.TestCase):
    def assert_wrong(self, part, call, *args, **named):
        self.assert_raises(InvalidArgument, {"part": part}, call, *args, **named)

    def assert_counts(self, program, turns, kind, histories):
        self.assertEqual(how_many(program, turns, kind=kind), len(histories))
        for place, history in enumerate(histories):
            self.assertEqual(history_at(program, turns, place, kind=kind), history)
            self.assertEqual(place_of(program, history, kind=kind), place)
        self.assert_wrong("place", history_at, program, turns, len(histories), kind=kind)
        self.assert_wrong("place", history_at, program, turns, 10 ** 30, kind=kind)


class ManyTest(CountsTest):
    def test_each_number_of_turns(self):
        program = Program(ASKED, asks=PAY)
        begun = [("begin", "go"), ("asked", "pay")]
        for kind in KINDS:
            self.assert_counts(program, 1, kind, [begun])
            self.assert_counts(program, 2, kind, [begun + [("answer", 0, word), ("ended", word)] for word in ("no", "yes")])
            for turns in (3, 4, 60):
                self.assert_counts(program, turns, kind, [])

    def test_both_kinds_differ_at_gates(self):
        program = Program([("gate", "g", [("timer", "t")], [("ask", "pay", "t")]), ("await", "t", "x")], asks=PAY, inputs=("on", "go"))
        marked = [[("begin", word), ("marked", "g"), ("set",)] for word in ("go", "on")]
        asked = [[("begin", word), ("asked", "pay")] for word in ("go", "on")]
        self.assert_counts(program, 1, "write", marked)
        self.assert_counts(program, 1, "read", [asked[0], marked[0], asked[1], marked[1]])
        self.assert_counts(program, 2, "write", [history + [("rang", 0), ("ended", "done")] for history in marked])
        self.assertEqual(how_many(program, 2, kind="read"), 6)
        self.assertEqual(how_many(program, 2), 6)
        self.assertEqual(history_at(program, 1, 0), asked[0])
        self.assertEqual(place_of(program, marked[0]), 1)
        self.assert_wrong("history", place_of, program, asked[0], kind="write")

    def test_order_of_turns_by_their_numbers(self):
        """Turns with numbers of two digits; commands of one turn decide where the outer tokens are equal."""
        rows = [("timer", "z"), ("drop", "z")] * 9 + [("timer", "a"), ("timer", "b")]
        program = Program(rows + [("first", ("a", "b"), "x"), ("note", "y", ("b", "a")), ("loop", HEAD)])
        begun = [("begin", "go")] + [token for number in range(9) for token in (("set",), ("dropped", number))] + [("set",)] * 2
        for kind in KINDS:
            histories = [begun + [("rang", number), ("noted", word), ("set",)] for number in (9, 10) for word in ("a", "b")]
            self.assert_counts(program, 2, kind, histories)

    def test_programs_without_histories(self):
        for rows in ([("await", "t", "x")], [("loop", [])], [("note", "x", ("a",))] * 4):
            for kind in KINDS:
                for turns in (1, 2, 60):
                    self.assert_counts(Program(rows), turns, kind, [])

    def test_sixty_turns_and_large_numbers(self):
        program = Program(ROUND, asks={"pay": ("d", "c", "b", "a")}, inputs=("z", "y", "x"))
        for kind in KINDS:
            many = 3 * 4 ** 59
            self.assertEqual(how_many(program, 60, kind=kind), many)
            for place in (0, 1, 4 ** 30, many // 2, 123456789123456789123456789, many - 2, many - 1):
                history = history_at(program, 60, place, kind=kind)
                self.assertEqual(len(cut(history)), 60)
                self.assertEqual(history[0], ("begin", "xyz"[place // 4 ** 59]))
                self.assertEqual([token[2] for token in history if token[0] == "answer"],
                                 ["abcd"[place // 4 ** more % 4] for more in reversed(range(59))])
                self.assertEqual([token[1] for token in history if token[0] == "answer"], list(range(59)))
                self.assertEqual(place_of(program, history, kind=kind), place)
            self.assert_wrong("place", history_at, program, 60, many, kind=kind)

    def test_numbers_of_two_roads(self):
        """Runs of which some end early: there the number of histories is a sum of different ones."""
        rows = [("loop", [("ask", "pay", "a"), ("await", "a", "x"), ("if", "x", "no", [("end", "x")], []), ("note", "y", ("a", "b"))])]
        program = Program(rows, asks={"pay": ("no", "yes", "on")})
        for kind in KINDS:
            for turns in (1, 2, 3, 10, 60):
                many = 1 if turns == 1 else 4 ** (turns - 2) * 5
                self.assertEqual(how_many(program, turns, kind=kind), many)
                for place in sorted({0, many // 3, many - 1}):
                    self.assertEqual(place_of(program, history_at(program, turns, place, kind=kind), kind=kind), place)


class LimitTest(CountsTest):
    """Programs that go round, with standings that differ in a place and in what the boxes hold."""

    def round_program(self, places, signals):
        # The first place comes twice: before anything rang, and each round.
        return Program([("loop", HEAD * (places - 1))], signals=signals)

    def test_exactly_1000_standings(self):
        """A box of 40 contents at 25 places."""
        program = self.round_program(25, {"s": (3, ("a", "b", "c"))})
        history = [("begin", "go"), ("set",)] + [("signal", "s", "a")] * 3
        for number in range(56):
            history += [("rang", number), ("set",)]
        for kind in KINDS:
            place = place_of(program, history, kind=kind)
            self.assertEqual(history_at(program, 60, place, kind=kind), history)
            self.assertGreater(how_many(program, 60, kind=kind), place)

    def test_1001_standings(self):
        """Boxes of 7 and of 13 contents at 11 places, of which the last ones come with 15 turns."""
        program = self.round_program(11, {"s": (2, ("a", "b")), "u": (2, ("a", "b", "c"))})
        last = [("begin", "go"), ("set",)] + [("signal", "s", "b")] * 2 + [("signal", "u", "c")] * 2
        for number in range(10):
            last += [("rang", number), ("set",)]
        more = last + [("rang", 10), ("set",)]
        for kind in KINDS:
            place = place_of(program, last, kind=kind)
            self.assertGreater(how_many(program, 15, kind=kind), place)
            self.assertEqual(history_at(program, 15, place, kind=kind), last)
            self.assert_wrong("place", history_at, program, 15, 10 ** 30, kind=kind)
            self.assert_wrong("history", place_of, program, last[:-1] + [("asked", "pay")], kind=kind)
            for turns in (16, 17, 60):
                self.assert_exceeded(how_many, program, turns, kind=kind)
                self.assert_exceeded(history_at, program, turns, 0, kind=kind)
                self.assert_exceeded(history_at, program, turns, 10 ** 30, kind=kind)
            self.assert_exceeded(place_of, program, more, kind=kind)
            self.assert_exceeded(place_of, program, more[:-1] + [("asked", "pay")], kind=kind)

    def assert_exceeded(self, call, *args, **named):
        self.assert_raises(LimitExceeded, {"limit": 1000}, call, *args, **named)


class ArgumentsTest(CountsTest):
    def test_turns(self):
        program = Program(ASKED, asks=PAY)
        for value in all_odd_values() + [0, -1, 61, 10 ** 9, True, False, 1.0]:
            if not is_integer(value) or not 1 <= value <= 60:
                self.assert_wrong("turns", how_many, program, value)
                self.assert_wrong("turns", how_many, program, value, kind=None)
                self.assert_wrong("turns", history_at, program, value, 0)
                self.assert_wrong("turns", history_at, program, value, None, kind=None)
        self.assertEqual((how_many(program, 1), how_many(program, 60)), (1, 0))

    def test_place(self):
        program = Program(ASKED, asks=PAY)
        for value in all_odd_values() + [-10 ** 30, True, False]:
            if not is_integer(value) or value < 0:
                self.assert_wrong("place", history_at, program, 1, value)
                self.assert_wrong("place", history_at, program, 1, value, kind=None)
        self.assert_wrong("kind", history_at, program, 1, 10 ** 30, kind=None)

    def test_kind_and_program(self):
        program = Program(ASKED, asks=PAY)
        for value in all_odd_values():
            self.assert_wrong("kind", how_many, program, 1, kind=value)
            self.assert_wrong("kind", history_at, program, 1, 5, kind=value)
            self.assert_wrong("kind", place_of, program, [("begin", "no")], kind=value)
            if not isinstance(value, Program):
                self.assert_wrong("program", how_many, value, None, kind=None)
                self.assert_wrong("program", history_at, value, None, None, kind=None)
                self.assert_wrong("program", place_of, value, None, kind=None)

    def test_history(self):
        program = Program(ASKED, asks=PAY)
        begun = [("begin", "go"), ("asked", "pay")]
        for value in all_odd_values():
            at = -1 if not isinstance(value, list) else 0
            self.assert_raises(InvalidHistory, {"at": at}, place_of, program, value, kind=None)
        self.assert_raises(InvalidHistory, {"at": 2}, place_of, program, begun + [("answer", 1, "no")])
        for history in [
            [("begin", "go")], [("begin", "no"), ("asked", "pay")], [("begin", "go"), ("set",)], begun + [("answer", 0, "no")],
            begun + [("answer", 0, "no"), ("ended", "yes")], begun + [("answer", 0, "on"), ("ended", "on")], begun + [("signal", "s", "a")],
            begun + [("answer", 0, "no"), ("anew", "no")], begun + [("set",)], begun + [("marked", "g")],
        ]:
            for kind in KINDS:
                self.assert_wrong("history", place_of, program, history, kind=kind)

    def test_more_than_sixty_turns(self):
        program = Program(ROUND, asks=PAY)
        history = history_at(program, 60, 7)
        self.assertEqual(place_of(program, history), 7)
        longer = history + [("answer", 59, "no"), ("asked", "pay")]
        self.assert_wrong("history", place_of, program, longer)
        self.assert_wrong("history", place_of, program, longer, kind="none")
        self.assert_raises(InvalidHistory, {"at": len(longer)}, place_of, program, longer + [("answer", 59, "no")])
        self.assert_wrong("history", place_of, program, [("begin", "go")] + [("signal", "s", "a")] * 60, kind="write")

    def test_long_histories(self):
        program = Program(ROUND, asks=PAY)
        self.assert_wrong("history", place_of, program, [("begin", "go")] + [("asked", "pay")] * 19999)
        self.assert_wrong("history", place_of, program, [("begin", "go")] + [("signal", "s", "a")] * 19999)

    def test_by_name_and_unchanged(self):
        program = Program(ASKED, asks=PAY)
        self.assertEqual(how_many(kind="write", turns=2, program=program), 2)
        history = history_at(kind="write", place=1, turns=2, program=program)
        before = copy.deepcopy(history)
        self.assertEqual(place_of(kind="write", history=history, program=program), 1)
        self.assertEqual(history, before)
        history.clear()
        self.assertEqual(history_at(program, 2, 1), before)
        with self.assertRaises(TypeError):
            how_many(program, 2, "write")


class CountsSearchTest(Counted):
    """Against lists of all histories, made by a slow search."""

    def test_programs_made_by_chance(self):
        for seed in range(110):
            program = (round_program if seed % 4 == 0 else small_program)(random.Random(seed), Program)
            for kind in KINDS:
                with self.subTest(seed=seed, kind=kind):
                    self.compare(program, kind)
        self.assert_seen(*[(kind, turns) for kind in KINDS for turns in (1, 2, 3, 4)], "several")

    def compare(self, program, kind):
        levels, _, whole = all_histories(program, kind, 4, 60)
        for turns, level in enumerate(levels, 1):
            histories = [tokens_of(history) for history, _ in level]
            self.see((kind, turns))
            self.see("several", len(histories) > 9)
            self.assertEqual(how_many(program, turns, kind=kind), len(histories))
            self.assertEqual([history_at(program, turns, place, kind=kind) for place in range(len(histories))], histories)
            self.assertEqual([place_of(program, history, kind=kind) for history in histories], list(range(len(histories))))
            with self.assertRaises(InvalidArgument):
                history_at(program, turns, len(histories), kind=kind)
        if whole:
            self.assertEqual(how_many(program, len(levels) + 1, kind=kind), 0)


if __name__ == "__main__":
    unittest.main()
