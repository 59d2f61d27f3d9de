"""Programs, [1.1] to [1.11], and what the general rules say of them."""

import copy
import unittest

from openruns.errors import InvalidArgument, InvalidProgram
from openruns.programs import Program
from openruns.runs import Run
from tests.helpers import Raises, all_odd_values

ASKS = {"pay": ("no", "yes"), "tell": ("ok",)}
SIGNALS = {"stop": (2, ("now", "later"))}

# One row of each kind of [1.2], in a list of depth 1; leave stands in a loop.
ROWS = {
    "ask": ("ask", "pay", "a"),
    "timer": ("timer", "a"),
    "await": ("await", "a", "x"),
    "first": ("first", ("a", "b", "c"), "x"),
    "drop": ("drop", "a"),
    "take": ("take", "stop", "x"),
    "note": ("note", "x", ("one", "two", "three")),
    "put": ("put", "x", "word"),
    "if": ("if", "x", "word", [("end", "x")], [("timer", "a")]),
    "loop": ("loop", [("leave",), ("put", "x", "a")]),
    "part": ("part", [("end", "x")]),
    "both": ("both", ([("end", "x")], [], [("timer", "a")])),
    "gate": ("gate", "g", [("end", "x")], [("timer", "a")]),
    "past": ("past", "g", [("end", "x")]),
    "end": ("end", "x"),
    "anew": ("anew", "x"),
}

NO_WORDS = [
    None, True, 0, 1, "", "A", "aB", "toolongab", "a b", "a1", "a_", "\u00e4", "\u00df", "a\n", "\uff41", b"a", (),
    ("a",), [], ["a"], {}, {"a": "a"},
]
NO_WORD_TUPLES = [
    None, "abc", (), [], ["a"], {"a": 1}, ("a", "a"), ("a", "b", "c", "a"), ("a", "B"), ("a", 1), (b"a",), (("a",),),
    ("a", []), 3, True,
]
NO_LISTS = [None, True, 0, "", "abc", b"", (), (("end", "x"),), {}, ("end", "x")]


def program(rows, **more):
    return Program(rows, asks=ASKS, signals=SIGNALS, **more)


class ProgramTest(Raises, unittest.TestCase):
    def assert_invalid(self, part, path, *args, **named):
        self.assert_raises(InvalidProgram, {"part": part, "path": path}, Program, *args, **named)

    def assert_row_invalid(self, row, path=(0,), rows=None):
        with self.subTest(row=repr(row)[:80]):
            self.assert_raises(InvalidProgram, {"part": "rows", "path": path}, program, [row] if rows is None else rows)


class PartsTest(ProgramTest):
    def test_what_is_left_out(self):
        for made in (Program([]), Program([], asks=None, signals=None), Program(rows=[], asks={}, signals={})):
            self.assertEqual(made.rows(), [])
            self.assertEqual(made.asks(), {})
            self.assertEqual(made.signals(), {})
            self.assertEqual(made.inputs(), ("go",))

    def test_parts_are_told_as_passed(self):
        made = Program([("take", "stop", "x")], asks=ASKS, signals=SIGNALS, inputs=("b", "a"))
        self.assertEqual(made.rows(), [("take", "stop", "x")])
        self.assertEqual(made.asks(), ASKS)
        self.assertEqual(made.signals(), SIGNALS)
        self.assertEqual(made.inputs(), ("b", "a"))

    def test_only_rows_by_position(self):
        self.assertRaises(TypeError, Program, [], {})
        self.assertRaises(TypeError, Program)

    def test_asks_at_their_limits(self):
        six = {name: ("a", "b", "c", "d") for name in ("u", "v", "w", "x", "y", "abcdefgh")}
        self.assertEqual(Program([], asks=six).asks(), six)
        self.assertEqual(Program([], asks={"in": ("in",)}).asks(), {"in": ("in",)})
        self.assert_invalid("asks", (), [], asks=dict(six, z=("a",)))
        self.assert_invalid("asks", (), [], asks={"pay": ("a", "b", "c", "d", "e")})
        self.assert_invalid("asks", (), [], asks={"pay": ()})

    def test_wrong_asks(self):
        for value in all_odd_values():
            if value is not None and value != {}:
                with self.subTest(value=repr(value)[:60]):
                    self.assert_invalid("asks", (), [], asks=value)
        for name in ("", "A", "toolongab", 1, True, None, b"pay", ("pay",), (("a",), 1)):
            self.assert_invalid("asks", (), [], asks={name: ("a",)})
        for answers in NO_WORD_TUPLES:
            if answers != ("a", "b", "c", "a"):
                self.assert_invalid("asks", (), [], asks={"pay": answers})
        self.assert_invalid("asks", (), [], asks={"ok": ("a",), "pay": ("a", "a")})

    def test_signals_at_their_limits(self):
        three = {"a": (1, ("u",)), "b": (2, ("u", "v")), "c": (3, ("u", "v", "w"))}
        self.assertEqual(Program([], signals=three).signals(), three)
        self.assert_invalid("signals", (), [], signals=dict(three, d=(1, ("u",))))
        for room in (0, 4, -1, True, False, None, "1", (1,), [], 10 ** 30):
            self.assert_invalid("signals", (), [], signals={"a": (room, ("u",))})
        for words in NO_WORD_TUPLES + [("a", "b", "c", "d")]:
            self.assert_invalid("signals", (), [], signals={"a": (1, words)})

    def test_wrong_signals(self):
        for value in all_odd_values():
            if value is not None and value != {}:
                with self.subTest(value=repr(value)[:60]):
                    self.assert_invalid("signals", (), [], signals=value)
        for entry in (None, 1, "ab", (), (1,), (1, ("u",), 1), [1, ("u",)], ("u",), (("u",), 1), {1: ("u",)}):
            self.assert_invalid("signals", (), [], signals={"a": entry})
        for name in ("", "A", "toolongab", 1, None, b"a"):
            self.assert_invalid("signals", (), [], signals={name: (1, ("u",))})

    def test_inputs(self):
        for inputs in (("a",), ("c", "b", "a"), ("in", "none"), ("abcdefgh",)):
            self.assertEqual(Program([], inputs=inputs).inputs(), inputs)
        for inputs in NO_WORD_TUPLES + [("a", "b", "c", "d"), "go", "a"]:
            self.assert_invalid("inputs", (), [], inputs=inputs)
        for value in all_odd_values():
            if value != ("a",):
                self.assert_invalid("inputs", (), [], inputs=value)


class RowsTest(ProgramTest):
    def test_each_kind_of_row_is_valid(self):
        for kind, row in ROWS.items():
            with self.subTest(kind):
                self.assertEqual(program([row]).rows(), [row])

    def test_shortest_and_empty_forms_are_valid(self):
        rows = [
            ("first", ("a",), "x"), ("note", "x", ("a",)), ("if", "in", "go", [], []), ("loop", []), ("part", []),
            ("both", ([], [])), ("both", ([], [], [])), ("gate", "g", [], []), ("past", "g", []), ("end", "in"),
            ("anew", "in"), ("put", "none", "in"), ("put", "abcdefgh", "abcdefgh"), ("await", "free", "x"),
        ]
        for row in rows:
            with self.subTest(row[0]):
                self.assertEqual(program([row]).rows(), [row])

    def test_words_of_different_kinds_may_be_equal(self):
        rows = [("timer", "a"), ("await", "a", "a"), ("gate", "a", [("put", "a", "a")], []), ("take", "a", "a")]
        self.assertEqual(Program(rows, signals={"a": (1, ("a",))}, asks={"a": ("a",)}, inputs=("a",)).rows(), rows)

    def test_rows_that_are_no_list(self):
        for value in all_odd_values():
            if not isinstance(value, list):
                with self.subTest(value=repr(value)[:60]):
                    self.assert_invalid("rows", (), value)

    def test_rows_that_are_no_rows(self):
        for value in all_odd_values() + [("leap",), ("Ask", "pay", "a"), (("ask",), "pay"), ([], "pay"), list(ROWS["end"])]:
            self.assert_row_invalid(value)
            self.assert_row_invalid(value, (1, 0, 0), [ROWS["ask"], ("part", [value, ROWS["end"]]), value])

    def test_too_short_and_too_long(self):
        for row in ROWS.values():
            self.assert_row_invalid(row[:-1])
            self.assert_row_invalid(row + ("x",))
            self.assert_row_invalid(row + ([],))
            self.assert_row_invalid(list(row))
        self.assert_row_invalid(("loop", [("leave", "x")]), (0, 0, 0))

    def replace_part(self, kind, at, values):
        for value in values:
            self.assert_row_invalid(ROWS[kind][:at] + (value,) + ROWS[kind][at + 1:])

    def test_parts_that_should_be_words(self):
        places = [
            ("ask", 1), ("ask", 2), ("timer", 1), ("await", 1), ("await", 2), ("first", 2), ("drop", 1), ("take", 1),
            ("take", 2), ("note", 1), ("put", 1), ("put", 2), ("if", 1), ("if", 2), ("gate", 1), ("past", 1),
            ("end", 1), ("anew", 1),
        ]
        for kind, at in places:
            self.replace_part(kind, at, NO_WORDS)

    def test_parts_that_should_be_tuples_of_words(self):
        self.replace_part("first", 1, NO_WORD_TUPLES + [("a", "b", "c", "d")])
        self.replace_part("note", 2, NO_WORD_TUPLES + [("a", "b", "c", "d")])

    def test_parts_that_should_be_lists(self):
        for kind, at in [("if", 3), ("if", 4), ("loop", 1), ("part", 1), ("gate", 2), ("gate", 3), ("past", 2)]:
            self.replace_part(kind, at, NO_LISTS)

    def test_sides(self):
        wrong = NO_LISTS + [[[], []], ([],), ([], [], [], []), ([], None), ([], [], ()), ((), ()), (None, [])]
        self.replace_part("both", 1, wrong)

    def test_unknown_asks_and_signals(self):
        self.assert_row_invalid(("ask", "stop", "a"))
        self.assert_row_invalid(("take", "pay", "x"))
        self.assert_invalid("rows", (0,), [("ask", "pay", "a")])
        self.assert_invalid("rows", (0,), [("take", "stop", "x")])

    def test_the_input_slot_is_never_written(self):
        for row in [
            ("await", "a", "in"), ("first", ("a",), "in"), ("take", "stop", "in"), ("note", "in", ("a",)),
            ("put", "in", "go"),
        ]:
            self.assert_row_invalid(row)

    def test_depth(self):
        shells = [
            lambda rows: ("if", "x", "a", rows, []), lambda rows: ("if", "x", "a", [], rows),
            lambda rows: ("loop", rows), lambda rows: ("part", rows), lambda rows: ("both", ([], rows)),
            lambda rows: ("both", ([], [], rows)), lambda rows: ("gate", "g", rows, []),
            lambda rows: ("gate", "g", [], rows), lambda rows: ("past", "g", rows),
        ]
        paths = [(0, 0), (0, 1), (0, 0), (0, 0), (0, 1), (0, 2), (0, 0), (0, 1), (0, 0)]
        for shell, step in zip(shells, paths):
            rows = [("end", "x")]
            for _ in range(4):
                rows = [shell(rows)]
            made = program(rows)
            self.assertEqual(made.rows(), rows)
            self.assertEqual(made.paths()[-1], step * 4 + (0,))
            path = step * 4 + (0,)
            self.assert_row_invalid(None, path, [shell([shell([shell([shell([shell([])])])])])])
            self.assert_row_invalid(None, path, [shell([shell([shell([shell([shell([("end", "x")])])])])])])

    def test_leave(self):
        inside = [
            [("leave",)], [("if", "x", "a", [("leave",)], [("leave",)])], [("part", [("leave",)])],
            [("gate", "g", [("leave",)], [("leave",)])], [("past", "g", [("part", [("leave",)])])],
            [("both", ([("loop", [("leave",)])], []))],
        ]
        for rows in inside:
            self.assertEqual(program([("loop", rows)]).rows(), [("loop", rows)])
        self.assert_row_invalid(("leave",))
        self.assert_row_invalid(("part", [("leave",)]), (0, 0, 0))
        self.assert_row_invalid(None, (1,), [("loop", [("leave",)]), ("leave",)])
        self.assert_row_invalid(("loop", [("both", ([("leave",)], []))]), (0, 0, 0, 0, 0))
        self.assert_row_invalid(("loop", [("both", ([], [("part", [("leave",)])]))]), (0, 0, 0, 1, 0, 0, 0))
        self.assert_row_invalid(("loop", [("both", ([], [("loop", []), ("leave",)]))]), (0, 0, 0, 1, 1))

    def test_first_invalid_row_in_the_order_of_paths(self):
        bad = ("end",)
        self.assert_row_invalid(None, (0,), [bad, bad])
        self.assert_row_invalid(None, (0, 0, 1), [("part", [("end", "x"), bad]), bad])
        self.assert_row_invalid(None, (0, 1, 0), [("if", "x", "a", [], [bad]), bad])
        self.assert_row_invalid(None, (0, 0, 0), [("if", "x", "a", [bad], [bad])])
        self.assert_row_invalid(None, (0,), [("if", "X", "a", [bad], [])])
        self.assert_row_invalid(None, (0,), [("if", "x", "a", [bad], None)])
        self.assert_row_invalid(None, (0,), [("both", ([bad], None))])
        self.assert_row_invalid(None, (0, 2, 0), [("both", ([], [], [bad])), bad])


class ChecksTest(ProgramTest):
    def test_size(self):
        sixty = [("part", [("put", "x", "a")] * 29)] * 2
        self.assertEqual(len(Program(sixty)), 60)
        self.assertEqual(len(Program([("end", "x")] * 60)), 60)
        self.assert_invalid("size", (), sixty + [("end", "x")])
        self.assert_invalid("size", (), [("part", [("put", "x", "a")] * 30)] * 2)
        self.assert_invalid("size", (), [("end", "x")] * 61)

    def test_labels(self):
        rows = [
            ("timer", "a"), ("ask", "pay", "b"), ("part", [("await", "c", "x")]), ("first", ("d", "a", "e"), "x"),
            ("drop", "f"),
        ]
        self.assertEqual(program(rows).names()["labels"], ["a", "b", "c", "d", "e", "f"])
        for row in [("timer", "g"), ("ask", "pay", "g"), ("await", "g", "x"), ("first", ("a", "g"), "x"), ("drop", "g")]:
            self.assert_raises(InvalidProgram, {"part": "labels", "path": ()}, program, rows + [("part", [row])])

    def test_slots(self):
        rows = [("await", "l", "a"), ("if", "b", "u", [("end", "c")], [("anew", "d")]), ("end", "in")]
        self.assertEqual(program(rows).names()["slots"], ["a", "b", "c", "d"])
        more = [
            ("await", "l", "e"), ("first", ("l",), "e"), ("take", "stop", "e"), ("note", "e", ("u",)), ("put", "e", "u"),
            ("if", "e", "u", [], []), ("end", "e"), ("anew", "e"),
        ]
        for row in more:
            self.assert_raises(InvalidProgram, {"part": "slots", "path": ()}, program, rows + [("part", [row])])

    def test_gates(self):
        rows = [("gate", name, [("past", "h", [])], []) for name in "abcdefg"]
        self.assertEqual(Program(rows).names()["gates"], list("abcdefgh"))
        for row in [("gate", "i", [], []), ("past", "i", [])]:
            self.assert_invalid("gates", (), rows + [("part", [row])])

    def test_the_order_of_the_checks(self):
        rows = [("gate", name, [], []) for name in "abcdefghi"]
        faults = [
            ("asks", {"asks": {"pay": ()}}), ("signals", {"signals": {"stop": ()}}), ("inputs", {"inputs": ()}),
        ]
        for k, (part, _) in enumerate(faults):
            named = {}
            for _, fault in faults[k:]:
                named.update(fault)
            self.assert_invalid(part, (), None, **named)
        row_faults = [
            ("rows", (60,), [("end",)]), ("size", (), [("end", "x")] * 60),
            ("labels", (), [("drop", name) for name in "abcdefg"]), ("slots", (), [("end", name) for name in "abcde"]),
            ("gates", (), rows),
        ]
        for k, (part, path, _) in enumerate(row_faults):
            together = [row for _, _, some in reversed(row_faults[k:]) for row in some]
            path = (len(together) - 1,) if part == "rows" else path
            self.assert_invalid(part, path, together)


class CopiesTest(ProgramTest):
    def test_what_was_passed_in_is_copied(self):
        rows = [("loop", [("both", ([("put", "x", "a")], [("if", "x", "a", [], [])]))])]
        asks, signals = dict(ASKS), dict(SIGNALS)
        made = Program(rows, asks=asks, signals=signals)
        kept = copy.deepcopy(rows)
        rows[0][1][0][1][0].append(("end", "x"))
        rows[0][1][0][1][1][0][3].append(("end", "x"))
        rows[0][1].clear()
        rows.clear()
        asks.clear()
        signals["more"] = (1, ("a",))
        self.assertEqual(made.rows(), kept)
        self.assertEqual(made.asks(), ASKS)
        self.assertEqual(made.signals(), SIGNALS)
        self.assertEqual(len(made), 4)

    def test_what_is_returned_belongs_to_the_caller(self):
        rows = [("loop", [("both", ([("put", "x", "a")], [("if", "x", "a", [], [])]))]), ("drop", "a")]
        made = program(rows)
        before = program(rows)
        made.rows()[0][1][0][1][1][0][4].append(1)
        made.rows()[0][1].clear()
        made.rows().clear()
        made.row_at((0,))[1][0][1][0].clear()
        made.row_at((0, 0, 0, 1, 0))[3].append(1)
        made.asks().clear()
        made.signals().clear()
        made.paths().clear()
        made.names()["labels"].append("b")
        made.names().clear()
        self.assertEqual(made, before)
        self.assertEqual(made.rows(), rows)
        self.assertEqual(made.row_at((0,)), rows[0])
        self.assertEqual(made.asks(), ASKS)
        self.assertEqual(made.signals(), SIGNALS)
        self.assertEqual(len(made.paths()), 5)
        self.assertEqual(made.names(), {"labels": ["a"], "slots": ["x"], "gates": []})

    def test_arguments_are_not_changed(self):
        rows = [ROWS[kind] for kind in ROWS]
        before = copy.deepcopy((rows, ASKS, SIGNALS))
        made = program(rows)
        others = [("part", [("end", "x")])]
        changed = made.with_rows((0,), others)
        others[0][1].clear()
        self.assertEqual(changed.row_at((0,)), ("part", [("end", "x")]))
        self.assertEqual((rows, ASKS, SIGNALS), before)

    def test_a_run_does_not_see_later_changes_of_rows(self):
        rows = [("timer", "a"), ("await", "a", "x"), ("part", [])]
        made = Program(rows)
        run = Run(made, "go")
        rows[2][1].append(("end", "in"))
        made.rows()[2][1].append(("end", "in"))
        self.assertEqual(run.tell(("rang", 0)), [("ended", "done")])


class MethodsTest(ProgramTest):
    def test_paths(self):
        made = program([ROWS[kind] for kind in ("if", "loop", "both", "gate", "past", "part")])
        expected = [
            (0,), (0, 0, 0), (0, 1, 0), (1,), (1, 0, 0), (1, 0, 1), (2,), (2, 0, 0), (2, 2, 0), (3,), (3, 0, 0),
            (3, 1, 0), (4,), (4, 0, 0), (5,), (5, 0, 0),
        ]
        self.assertEqual(made.paths(), expected)
        self.assertEqual(made.paths(), sorted(made.paths()))
        self.assertEqual(len(made), len(expected))
        self.assertEqual(Program([]).paths(), [])
        self.assertEqual(len(Program([])), 0)

    def test_paths_ascend_as_numbers(self):
        made = Program([("part", [("end", "x")] * 12)] + [("end", "x")] * 11)
        self.assertEqual(made.paths(), sorted(made.paths()))
        self.assertEqual(made.paths()[11:14], [(0, 0, 10), (0, 0, 11), (1,)])

    def test_row_at(self):
        rows = [ROWS[kind] for kind in ("if", "loop", "both", "gate", "past", "part")]
        made = program(rows)
        for number, row in enumerate(rows):
            self.assertEqual(made.row_at((number,)), row)
        self.assertEqual(made.row_at((0, 1, 0)), ("timer", "a"))
        self.assertEqual(made.row_at((2, 2, 0)), ("timer", "a"))
        self.assertEqual(made.row_at(path=(3, 0, 0)), ("end", "x"))

    def test_wrong_paths(self):
        made = Program([("end", "x"), ("part", [("end", "x")])])
        wrong = all_odd_values() + [
            (2,), (-1,), (0, 0), (0, 0, 0), (1, 0), (1, 0, 1), (1, 1, 0), (True,), (False,), (True, 0, 0), (1, False, 0),
            (1, 0, False), [0], [1, 0, 0], "0", ("0",), ((0,),), (10 ** 30,), (0, []), ([0],),
        ]
        for path in wrong:
            if path != (1,) or path[0] is True:
                with self.subTest(path=repr(path)[:60]):
                    self.assert_raises(InvalidArgument, {"part": "path"}, made.row_at, path)
                    self.assert_raises(InvalidArgument, {"part": "path"}, made.with_rows, path, [])
                    self.assert_raises(InvalidArgument, {"part": "path"}, made.with_rows, path, None)

    def test_names(self):
        rows = [
            ("timer", "c"), ("ask", "pay", "a"), ("first", ("d", "b"), "y"), ("drop", "a"), ("take", "stop", "x"),
            ("past", "h", [("gate", "b", [], [("if", "in", "go", [], [("note", "w", ("n",))])])]), ("end", "in"),
        ]
        expected = {"labels": ["a", "b", "c", "d"], "slots": ["w", "x", "y"], "gates": ["b", "h"]}
        self.assertEqual(program(rows).names(), expected)
        self.assertEqual(Program([]).names(), {"labels": [], "slots": [], "gates": []})

    def test_with_rows(self):
        rows = [("put", "x", "a"), ("both", ([], [("put", "x", "b"), ("part", [("put", "x", "c")])])), ("end", "x")]
        made = program(rows, inputs=("a", "b"))
        one, two = ("drop", "a"), ("loop", [("leave",)])
        self.assertEqual(made.with_rows((0,), []).rows(), rows[1:])
        self.assertEqual(made.with_rows((2,), [one]).rows(), rows[:2] + [one])
        inner = made.with_rows((1, 1, 0), [one, two])
        self.assertEqual(inner.rows()[1], ("both", ([], [one, two, ("part", [("put", "x", "c")])])))
        self.assertEqual(made.with_rows((1, 1, 1, 0, 0), [one]).row_at((1, 1, 1)), ("part", [one]))
        self.assertEqual(made.with_rows(path=(1, 1, 1), rows=[]).row_at((1,)), ("both", ([], [("put", "x", "b")])))
        self.assertEqual((inner.asks(), inner.signals(), inner.inputs()), (ASKS, SIGNALS, ("a", "b")))
        self.assertEqual(made, program(rows, inputs=("a", "b")))

    def test_with_rows_in_each_kind_of_list(self):
        new = ("put", "x", "new")
        for kind in ("if", "loop", "part", "both", "gate", "past"):
            made = program([ROWS[kind]])
            for path in made.paths()[1:]:
                changed = made.with_rows(path, [new])
                self.assertEqual(changed.row_at(path), new)
                self.assertEqual(changed.with_rows(path, [made.row_at(path)]), made)

    def test_wrong_rows_in_with_rows(self):
        made = Program([("end", "x"), ("loop", [("leave",)])])
        for value in all_odd_values():
            if not isinstance(value, list):
                self.assert_raises(InvalidArgument, {"part": "rows"}, made.with_rows, (0,), value)
        invalid = {"part": "rows", "path": (1, 0, 1)}
        self.assert_raises(InvalidProgram, invalid, made.with_rows, (1, 0, 0), [("leave",), ("leap",)])
        self.assert_raises(InvalidProgram, {"part": "rows", "path": (0,)}, made.with_rows, (0,), [("leave",)])
        self.assert_raises(InvalidProgram, {"part": "rows", "path": (0,)}, made.with_rows, (0,), [[]])
        self.assert_raises(InvalidProgram, {"part": "size", "path": ()}, made.with_rows, (0,), [("end", "x")] * 59)
        self.assertEqual(len(made.with_rows((0,), [("end", "x")] * 58)), 60)
        self.assertEqual(len(made), 3)


class EqualityTest(ProgramTest):
    def assert_equal_programs(self, one, other):
        self.assertTrue(one == other)
        self.assertFalse(one != other)

    def assert_different(self, one, other):
        self.assertFalse(one == other)
        self.assertFalse(other == one)
        self.assertTrue(one != other)
        self.assertTrue(other != one)

    def test_equal_programs(self):
        rows = [ROWS[kind] for kind in ROWS]
        self.assert_equal_programs(program(rows), program(copy.deepcopy(rows)))
        self.assert_equal_programs(Program([]), Program([], asks={}, signals=None, inputs=("go",)))
        turned = {name: ASKS[name] for name in reversed(list(ASKS))}
        self.assert_equal_programs(Program([], asks=ASKS), Program([], asks=turned))

    def test_each_part_counts(self):
        base = program([("put", "x", "a"), ("note", "x", ("a", "b"))], inputs=("a", "b"))
        rows = base.rows()
        different = [
            program(rows[::-1], inputs=("a", "b")), program(rows[:1], inputs=("a", "b")),
            program([rows[0], ("note", "x", ("b", "a"))], inputs=("a", "b")), program(rows, inputs=("b", "a")),
            program(rows, inputs=("a",)), Program(rows, asks=ASKS, inputs=("a", "b")),
            Program(rows, signals=SIGNALS, inputs=("a", "b")),
            Program(rows, asks=dict(ASKS, pay=("yes", "no")), signals=SIGNALS, inputs=("a", "b")),
            Program(rows, asks=ASKS, signals={"stop": (2, ("later", "now"))}, inputs=("a", "b")),
            Program(rows, asks=ASKS, signals={"stop": (1, ("now", "later"))}, inputs=("a", "b")),
        ]
        for other in different:
            self.assert_different(base, other)

    def test_no_value_of_another_kind_is_equal(self):
        made = Program([])
        for value in all_odd_values():
            if not isinstance(value, Program):
                self.assert_different(made, value)

    def test_methods_stand_in_the_class_itself(self):
        for name in (
            "rows", "asks", "signals", "inputs", "paths", "row_at", "names", "with_rows", "__len__", "__eq__", "__ne__",
            "__init__",
        ):
            self.assertIn(name, vars(Program))


if __name__ == "__main__":
    unittest.main()
