"""Edits and their gates, [9.1] to [9.4], and what the general rules say of them."""

import copy
import itertools
import random
import unittest

from openruns.errors import InvalidArgument, InvalidProgram, InvalidText, LimitExceeded
from openruns.gates import Edited, fewest, least_sets, safe_sets, why_not
from openruns.over import parting
from openruns.programs import Program
from openruns.texts import read_program
from tests.helpers import Raises, all_odd_values
from tests.made import FEW_KINDS, FEW_SHELLS, FEW_SIGNALS, LABELS, Maker, size
from tests.model import ModelBreaks, read_world
from tests.search import all_histories
from tests.test_search import Counted, tokens_of

ASKS = {"pay": ("yes", "no"), "tell": ("yes",)}
HEAD = [("timer", "t"), ("await", "t", "x")]
GO = ("begin", "go")


def edit(name, new=(), old=()):
    return ("edit", name, list(new), list(old))


def edited_of(rows, **more):
    return Edited(rows, **{"asks": ASKS, **more})


class GatesTest(Raises, unittest.TestCase):
    def assert_wrong(self, part, call, *args, **named):
        self.assert_raises(InvalidArgument, {"part": part}, call, *args, **named)

    def assert_invalid(self, part, path, rows, **more):
        self.assert_raises(InvalidProgram, {"part": part, "path": path}, edited_of, rows, **more)


class CheckTest(GatesTest):
    def test_edits_stand_where_gates_may(self):
        deepest = [("part", [("part", [("part", [edit("a", [("drop", "t")], [])])])])]
        for rows in ([], [edit("a")], [edit("a", HEAD, HEAD)], [edit("a", [edit("b", [edit("c")], [edit("d")])])], deepest,
                     [("both", ([edit("a")], [edit("b")]))], [("if", "x", "a", [edit("a")], [edit("b")])],
                     [("gate", "g", [edit("a")], [edit("b")]), ("past", "g", [edit("c")])]):
            edited = edited_of(rows)
            self.assertEqual(edited.ids(), tuple(name for name in "abcd" if repr(("edit", name))[:-1] in repr(rows)))

    def test_leave_rows_within_edits(self):
        leave = ("leave",)
        for rows in ([("loop", [edit("a", [leave], [leave])])], [("loop", [edit("a", [edit("b", [leave], [leave])], [("if", "x", "a", [leave], [])])])]):
            edited_of(rows)
        self.assert_invalid("rows", (0, 0, 0), [edit("a", [leave])])
        self.assert_invalid("rows", (0, 1, 0), [edit("a", [], [leave])])
        self.assert_invalid("rows", (0, 0, 0, 0, 0, 0, 0), [("loop", [edit("a", [("both", ([leave], []))])])])
        self.assert_invalid("rows", (0, 0, 0, 0, 0, 1, 0), [("loop", [("both", ([edit("a", [], [leave])], []))])])

    def test_forms(self):
        wrong = [("edit",), ("edit", "a"), ("edit", "a", []), ("edit", "a", [], [], []), ("edit", "A", [], []), ("edit", "", [], []), ("edit", 1, [], []),
                 ("edit", "toolongwd", [], []), ("edit", ["a"], [], []), ("edit", None, [], []), ("edit", "a", (), []), ("edit", "a", [], ()),
                 ("edit", "a", None, []), ("edit", "a", [], "b"), ["edit", "a", [], []], ("edits", "a", [], [])]
        for row in wrong:
            self.assert_invalid("rows", (0,), [row])
            self.assert_invalid("rows", (1, 0, 1), [("drop", "t"), ("loop", [edit("b"), row])])
            self.assert_invalid("rows", (0, 1, 0), [edit("b", [], [row])])
        self.assert_invalid("rows", (0, 0, 1), [edit("a", [("drop", "t"), ("drop", 1)], [("drop", 2)])])
        self.assert_invalid("rows", (0, 1, 0), [edit("a", [("drop", "t")], [("drop", 2)])])
        self.assert_invalid("rows", (0, 0, 0, 0, 0, 0, 0, 0, 0), [("part", [("part", [("part", [("part", [edit("a")])])])])])
        self.assert_invalid("rows", (0, 0, 0), [edit("a", [("ask", "none", "t")])])

    def test_other_rows_are_checked_as_in_programs(self):
        for value in all_odd_values():
            if not isinstance(value, list):
                self.assert_invalid("rows", (), value)
            if value is not None and value != {}:
                self.assert_invalid("asks", (), [("edit",)], asks=value)
            self.assert_invalid("rows", (0,), [value])
            if not (isinstance(value, tuple) and value == ("a",)):
                self.assert_invalid("inputs", (), [("edit",)], inputs=value)
            if value is not None and value != {}:
                self.assert_invalid("signals", (), [("edit",)], signals=value)

    def test_ids_that_are_there_already(self):
        gate, past = ("gate", "a", [], []), ("past", "a", [])
        for other in (edit("a"), gate, past):
            self.assert_invalid("rows", (1,), [edit("a"), other])
            self.assert_invalid("rows", (1,), [other, edit("a")])
            self.assert_invalid("rows", (0, 0, 0), [("edit", "a", [other], [])])
            self.assert_invalid("rows", (0, 1, 0), [("edit", "a", [], [other])])
            self.assert_invalid("rows", (1, 1, 0), [("part", [other]), ("if", "x", "b", [], [edit("a")])])
            self.assert_invalid("rows", (0, 1, 0), [("both", ([edit("a")], [other]))])
        self.assert_invalid("rows", (0, 0, 0), [("gate", "a", [edit("a")], [edit("a")])])
        self.assert_invalid("rows", (0, 0, 0), [("past", "a", [edit("a")])])
        edited_of([gate, past, gate, edit("b")])
        # The first of two faults: an id that is there already, and a row that is wrong behind it.
        self.assert_invalid("rows", (1,), [edit("a"), edit("a"), ("drop",)])
        self.assert_invalid("rows", (1,), [edit("a"), ("drop",), edit("a")])
        self.assert_invalid("rows", (1,), [edit("a"), ("gate", "a", [("drop",)], [])])
        self.assert_invalid("rows", (1,), [gate, ("edit", "a", [("drop",)], [])])

    def test_limits_with_edit_rows_counted(self):
        filled = [("drop", "t")] * 57
        edited_of([edit("a", [edit("b")])] + filled + [("drop", "t")])
        self.assert_invalid("size", (), [edit("a", [edit("b")])] + filled + [("drop", "t")] * 2)
        self.assert_invalid("labels", (), [edit("a", [("drop", label) for label in "abcd"], [("drop", label) for label in "efg"])])
        self.assert_invalid("slots", (), [edit("a", [("put", slot, "a") for slot in "abc"], [("put", slot, "a") for slot in "de"])])
        gates = [("gate", name, [], []) for name in "abcdef"]
        edited_of(gates + [edit("g"), edit("h")])
        self.assert_invalid("gates", (), gates + [edit("g"), edit("h"), edit("i")])
        self.assert_invalid("gates", (), [edit(name) for name in "abcdefghi"])
        edited_of([edit(name) for name in "abcd"])
        self.assert_invalid("edits", (), [edit(name) for name in "abcde"])
        self.assert_invalid("edits", (), [edit("a", [edit("b"), edit("c")], [edit("d", [], [edit("e")])])])

    def test_order_of_the_steps(self):
        five = [edit(name) for name in "abcde"]
        labels = [("drop", label) for label in "abcdefg"]
        self.assert_invalid("asks", (), None, asks=1, signals=1, inputs=1)
        self.assert_invalid("signals", (), None, signals=1, inputs=1)
        self.assert_invalid("inputs", (), None, inputs=1)
        self.assert_invalid("rows", (12,), five + labels + [("edit",)])
        self.assert_invalid("size", (), five + labels + [("drop", "a")] * 60)
        self.assert_invalid("labels", (), five + labels)
        self.assert_invalid("edits", (), five + labels[:6])

    def test_programs_have_no_edits(self):
        self.assert_raises(InvalidProgram, {"part": "rows", "path": (0,)}, Program, [edit("a")])
        self.assert_raises(InvalidProgram, {"part": "rows", "path": (0,)}, Program([("drop", "t")]).with_rows, (0,), [edit("a")])
        self.assert_raises(InvalidText, {"line": 3}, read_program, "inputs go\nrows\n  edit a\n  old")
        self.assertNotIsInstance(edited_of([]), Program)

    def test_left_out_and_copied(self):
        rows = [edit("a", [("drop", "t")], HEAD)]
        asks = {"pay": ("yes",)}
        edited = Edited(rows, asks=asks)
        rows[0][2].append(("leave",))
        rows.clear()
        asks.clear()
        self.assertEqual(edited.plain(), Program([("part", HEAD)], asks={"pay": ("yes",)}))
        self.assertEqual(Edited([edit("a")]).plain(), Program([("part", [])]))
        self.assertEqual(Edited(rows=[], asks=None, signals=None, inputs=("a", "b")).plain(), Program([], inputs=("a", "b")))


class PlainTest(GatesTest):
    def setUp(self):
        inner = edit("in", [("put", "x", "new")], [("put", "x", "old")])
        other = edit("other", [("leave",)], [("drop", "t")])
        self.rows = [("gate", "g", [inner], []), ("loop", [edit("b", [other, ("end", "x")], [edit("a", HEAD, [("drop", "u")]), ("leave",)])])]
        self.signals = {"s": (1, ("a",))}
        self.edited = edited_of(self.rows, signals=self.signals, inputs=("b", "a"))

    def program(self, rows):
        return Program(rows, asks=ASKS, signals=self.signals, inputs=("b", "a"))

    def test_ids(self):
        self.assertEqual(self.edited.ids(), ("a", "b", "in", "other"))
        self.assertEqual(edited_of([]).ids(), ())

    def test_plain(self):
        self.assertEqual(self.edited.plain(), self.program([
            ("gate", "g", [("part", [("put", "x", "old")])], []), ("loop", [("part", [("part", [("drop", "u")]), ("leave",)])])]))

    def test_cut(self):
        def inner(cut):
            new, old = [("put", "x", "new")], [("put", "x", "old")]
            return ("gate", "in", new, old) if cut else ("part", new)

        def other(cut):
            return ("gate", "other", [("leave",)], [("drop", "t")]) if cut else ("part", [("leave",)])

        def lowest(cut):
            return ("gate", "a", HEAD, [("drop", "u")]) if cut else ("part", HEAD)

        def upper(cut, ids):
            new, old = [other("other" in ids), ("end", "x")], [lowest("a" in ids), ("leave",)]
            return ("gate", "b", new, old) if cut else ("part", new)

        for many in range(5):
            for ids in itertools.permutations(self.edited.ids(), many):
                expected = self.program([("gate", "g", [inner("in" in ids)], []), ("loop", [upper("b" in ids, ids)])])
                self.assertEqual(self.edited.cut(ids), expected)
                self.assertEqual(self.edited.cut(list(ids)), expected)
        self.assertEqual(self.edited.cut(ids=("a",)), self.edited.cut(["a"]))

    def test_wrong_ids(self):
        wrong = ["a", ("g",), ("a", "a"), ["b", "a", "b"], ("a", "c"), ("a", None), ("a", 1), ("a", ["b"]), {"a": 1}, ("edit",), ("a", ("b",)), b"a", [["a"]]]
        for value in wrong + [odd for odd in all_odd_values() if odd not in ((), [], ("a",), ["a"])]:
            self.assert_wrong("ids", self.edited.cut, value)
            self.assert_wrong("ids", why_not, self.edited, value, ended=None, limit=None)
        self.assert_wrong("ids", edited_of([]).cut, ("a",))

    def test_the_edited_program_does_not_change(self):
        self.edited.cut(("a",)).rows().clear()
        self.edited.plain().rows()[1][1].clear()
        self.test_plain()


class SafeTest(GatesTest):
    def test_a_set_that_contains_a_safe_set_is_not_always_safe(self):
        one = edit("one", [("put", "s", "new")], [("put", "s", "old")])
        two = edit("two", [("if", "s", "new", [("ask", "pay", "a")], [("ask", "tell", "a")])], [("ask", "pay", "a")])
        edited = edited_of([one, two, ("await", "a", "x")], asks={"pay": ("yes",), "tell": ("yes",)})
        for ended in (False, True):
            self.assertEqual(safe_sets(edited, ended=ended), [(), ("two",), ("one", "two")])
            self.assertEqual(least_sets(edited, ended=ended), [()])
            self.assertEqual(fewest(edited, ended=ended), ())
            self.assertEqual(why_not(edited, ("one",), ended=ended), ([GO, ("asked", "pay")], 1, "other"))
            self.assertIsNone(why_not(edited, ["two", "one"], ended=ended))

    def test_both_senses(self):
        """An edit of what is done in the end is safe without a gate, as far as open histories are looked at."""
        edited = edited_of(HEAD + [edit("a", [("end", "x")], []), edit("b", [], [])])
        self.assertEqual(safe_sets(edited), [(), ("a",), ("b",), ("a", "b")])
        self.assertEqual(safe_sets(edited, ended=True), [("a",), ("a", "b")])
        self.assertEqual((least_sets(edited), fewest(edited)), ([()], ()))
        self.assertEqual((least_sets(edited, ended=True), fewest(edited, ended=True)), ([("a",)], ("a",)))
        self.assertIsNone(why_not(edited, ()))
        self.assertEqual(why_not(edited, (), ended=True), ([GO, ("set",), ("rang", 0), ("ended", "done")], 3, "other"))

    def test_order_of_sets(self):
        """Each of the four edits alone needs its gate, or none does."""
        edited = edited_of([edit(name, [], []) for name in "dbca"] + HEAD)
        sets = [ids for many in range(5) for ids in itertools.combinations("abcd", many)]
        self.assertEqual(safe_sets(edited), sets)
        changes = [edit(name, [("timer", "u"), ("drop", "u")], []) for name in "dbca"]
        edited = edited_of(changes + HEAD)
        self.assertEqual((safe_sets(edited), least_sets(edited), fewest(edited)), ([tuple("abcd")], [tuple("abcd")], tuple("abcd")))
        edited = edited_of([])
        self.assertEqual((safe_sets(edited), least_sets(edited), fewest(edited)), ([()], [()], ()))

    def test_several_least_sets(self):
        """Of two edits one has to be behind a gate, whichever it is, but not none."""
        one = edit("a", [("put", "s", "new")], [("put", "s", "old")])
        two = edit("b", [("if", "s", "new", [("ask", "tell", "a")], [("ask", "pay", "a")])], [("ask", "pay", "a")])
        edited = edited_of([one, two, ("await", "a", "x")])
        self.assertEqual(safe_sets(edited), [("a",), ("b",), ("a", "b")])
        self.assertEqual(least_sets(edited), [("a",), ("b",)])
        self.assertEqual(fewest(edited), ("a",))

    def test_by_name(self):
        edited = edited_of(HEAD + [edit("a", [("end", "x")], [])])
        self.assertEqual(safe_sets(limit=10000, ended=True, edited=edited), [("a",)])
        self.assertEqual(least_sets(limit=10000, ended=True, edited=edited), [("a",)])
        self.assertEqual(fewest(limit=10000, ended=True, edited=edited), ("a",))
        self.assertEqual(why_not(limit=10000, ended=True, ids=[], edited=edited)[1:], (3, "other"))


class LimitTest(GatesTest):
    def test_limits(self):
        """Two open pairs with one set, one with the others."""
        edited = edited_of(HEAD + HEAD + [edit("a", [("put", "x", "a")], [])])
        for ended, many in ((False, 2), (True, 3)):
            for call in (safe_sets, least_sets, fewest):
                call(edited, ended=ended, limit=many)
                for limit in range(1, many):
                    self.assert_raises(LimitExceeded, {"limit": limit}, call, edited, ended=ended, limit=limit)
            for ids in ((), ("a",)):
                self.assertIsNone(why_not(edited, ids, ended=ended, limit=many))
                self.assert_raises(LimitExceeded, {"limit": many - 1}, why_not, edited, ids, ended=ended, limit=many - 1)

    def test_a_limit_that_only_one_set_exceeds(self):
        """Without the gate the first turn breaks; with it there are three pairs."""
        edited = edited_of([edit("a", [("timer", "u"), ("drop", "u")], [])] + HEAD + HEAD + HEAD)
        self.assertEqual(why_not(edited, (), limit=1), ([GO, ("set",)], 2, "more"))
        for call in (safe_sets, least_sets, fewest):
            self.assert_raises(LimitExceeded, {"limit": 2}, call, edited, limit=2)
            call(edited, limit=3)
        self.assertEqual(safe_sets(edited, limit=3), [("a",)])

    def test_a_limit_that_only_a_late_set_exceeds(self):
        """The first safe set is found within the limit; with the gate there is a pair more, once it is settled."""
        edited = edited_of([("put", "x", "rang"), ("loop", HEAD + [edit("a")])])
        self.assertIsNone(why_not(edited, (), limit=1))
        self.assert_raises(LimitExceeded, {"limit": 1}, why_not, edited, ("a",), limit=1)
        for call, told in ((safe_sets, [(), ("a",)]), (least_sets, [()]), (fewest, ())):
            self.assert_raises(LimitExceeded, {"limit": 1}, call, edited, limit=1)
            self.assertEqual(call(edited, limit=2), told)


class ArgumentsTest(GatesTest):
    def test_wrong_arguments_in_their_order(self):
        edited = edited_of(HEAD + [edit("a")])
        for value in all_odd_values():
            for call in (safe_sets, least_sets, fewest):
                self.assert_wrong("edited", call, value, ended=None, limit=None)
                if not isinstance(value, bool):
                    self.assert_wrong("ended", call, edited, ended=value, limit=None)
                if type(value) is not int or not 1 <= value <= 10000:
                    self.assert_wrong("limit", call, edited, limit=value)
            self.assert_wrong("edited", why_not, value, None, ended=None, limit=None)
            if not isinstance(value, bool):
                self.assert_wrong("ended", why_not, edited, ("a",), ended=value, limit=None)
            if type(value) is not int or not 1 <= value <= 10000:
                self.assert_wrong("limit", why_not, edited, (), limit=value)
        self.assert_wrong("edited", safe_sets, Program([]))
        self.assert_wrong("limit", fewest, edited, limit=10001)


class GatesSearchTest(Counted):
    """Against a slow search over all sets of ids, for programs made by chance."""

    def test_programs_made_by_chance(self):
        for seed in range(160):
            with self.subTest(seed=seed):
                self.compare(random.Random(seed), {} if seed % 2 else FEW_SIGNALS)
        self.assert_seen("whole", "safe", "not safe", "needs a gate", "nested")

    def edited_rows(self, chance, rows, names):
        """Rows of which some have become edits."""
        told = []
        for row in rows:
            parts = [self.edited_rows(chance, part, names) if isinstance(part, list) else part for part in row]
            if row[0] == "both":
                parts = ["both", tuple(self.edited_rows(chance, side, names) for side in row[1])]
            row = tuple(parts)
            if names and chance.random() < 0.35 and row[0] not in ("leave", "past"):
                other = chance.choice([[], [("put", "x", "yes")], [row, ("put", "y", "no")], [("drop", "a"), row], [("timer", "s"), row]])
                name = names.pop()
                row = chance.choice([("edit", name, other, [row]), ("edit", name, [row], other)])
                self.see("nested", "edit" in repr(row[2:]))
            told.append(row)
        return told

    def made_edited(self, chance, more):
        kinds = {**FEW_KINDS, "take": 1 if more["signals"] else 0}
        while True:
            rows = self.edited_rows(chance, Maker(chance, kinds, FEW_SHELLS).rows(1, False, LABELS[:4], set(), 5), list("cba"))
            try:
                if size(rows) <= 60:
                    return rows, Edited(rows, **more)
            except InvalidProgram:
                pass

    def replaced(self, rows, ids):
        """Rows with the edits replaced; ids is None for the plain program."""
        told = []
        for row in rows:
            parts = tuple(self.replaced(part, ids) if isinstance(part, list) else part for part in row)
            if row[0] == "both":
                parts = ("both", tuple(self.replaced(side, ids) for side in row[1]))
            if row[0] == "edit" and ids is None:
                parts = ("part", parts[3])
            elif row[0] == "edit":
                parts = ("gate",) + parts[1:] if row[1] in ids else ("part", parts[2])
            told.append(parts)
        return told

    def compare(self, chance, signals):
        more = {"asks": {"pay": ("no", "yes"), "tell": ("yes",)}, "signals": signals, "inputs": ("no", "yes")}
        rows, edited = self.made_edited(chance, more)
        before = copy.deepcopy(rows)
        plain = Program(self.replaced(rows, None), **more)
        self.assertEqual(edited.plain(), plain)
        sets = [ids for many in range(len(edited.ids()) + 1) for ids in itertools.combinations(edited.ids(), many)]
        cuts = {ids: Program(self.replaced(rows, ids), **more) for ids in sets}
        for ids in sets:
            self.assertEqual(edited.cut(ids), cuts[ids])
        levels, _, whole = all_histories(plain, "write", 4, 30)
        for ended in (False, True):
            breaks = {ids: self.slow_break(levels, cuts[ids], ended) for ids in sets}
            for ids in sets:
                told = why_not(edited, ids[::-1], ended=ended)
                self.assertEqual(told, parting(plain, cuts[ids], ended=ended))
                if breaks[ids] is not None or whole:
                    self.assertEqual(told, breaks[ids])
            if whole:
                self.see("whole")
                self.compare_sets(edited, ended, [ids for ids in sets if breaks[ids] is None], sets)
        self.assertEqual(rows, before)

    def slow_break(self, levels, program, ended):
        for level in levels:
            for history, standing in level:
                if ended or standing[0] == "at":
                    try:
                        read_world(program, history)
                    except ModelBreaks as breach:
                        return (tokens_of(history),) + breach.args
        return None

    def compare_sets(self, edited, ended, safe, sets):
        self.see("safe", len(safe))
        self.see("not safe", len(sets) - len(safe))
        self.see("needs a gate", () not in safe)
        self.assertIn(edited.ids(), safe)
        self.assertEqual(safe_sets(edited, ended=ended), safe)
        self.assertEqual(least_sets(edited, ended=ended), [ids for ids in safe if not any(set(other) < set(ids) for other in safe)])
        self.assertEqual(fewest(edited, ended=ended), safe[0])


if __name__ == "__main__":
    unittest.main()
