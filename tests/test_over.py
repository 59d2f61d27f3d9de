"""Old programs and new ones, [6.1] to [6.4], and what the general rules say of them."""

import copy
import itertools
import random
import unittest

from openruns.books import Book
from openruns.errors import InvalidArgument, InvalidProgram, LimitExceeded
from openruns.over import is_table, parting, table, taking
from openruns.programs import Program
from openruns.reading import cut, read
from tests.helpers import Raises, all_odd_values
from tests.made import changed_program, round_program, small_program
from tests.model import ModelBreaks, read_world
from tests.search import all_histories
from tests.test_search import Counted, tokens_of

ASKS = {"pay": ("yes", "no"), "tell": ("ok",)}
HEAD = [("timer", "t"), ("await", "t", "x")]
BEGUN = [("begin", "go"), ("set",)]


def program_of(rows, **more):
    return Program(rows, **{"asks": ASKS, **more})


def asking(old, new, kind, ended=False, limit=10000):
    return (parting if kind == "write" else taking)(old, new, ended=ended, limit=limit)


class OverTest(Raises, unittest.TestCase):
    def assert_wrong(self, part, call, *args, **named):
        self.assert_raises(InvalidArgument, {"part": part}, call, *args, **named)


class PartingTest(OverTest):
    def test_a_break_is_told_as_a_tuple(self):
        self.assertIsNone(parting(program_of(HEAD + HEAD), program_of(HEAD + HEAD + HEAD)))
        told = parting(program_of(HEAD + HEAD), program_of(HEAD + [("timer", "u")] + HEAD))
        self.assertEqual(told, (BEGUN + [("rang", 0), ("set",)], 4, "more"))
        self.assertEqual((type(told), type(told[0])), (tuple, list))
        self.assertEqual(read(program_of(HEAD + [("timer", "u")] + HEAD), told[0]), ("breaks",) + told[1:])

    def test_the_same_program_twice(self):
        rows = HEAD + [("gate", "g", [("timer", "u")], [("take", "s", "y")]), ("past", "h", [("note", "y", ("a", "b"))]), ("end", "y")]
        program = program_of(rows, signals={"s": (1, ("a",))})
        for ended in (False, True):
            for kind in ("write", "read"):
                self.assertIsNone(asking(program, program, kind, ended))
                self.assertIsNone(asking(program, program_of(rows, signals={"s": (1, ("a",))}), kind, ended))
                standings = Book(program, kind=kind).standings()
                pairs = [(standing, standing) for standing in standings if ended or standing[0] == "at"]
                self.assertEqual(table(program, program, kind=kind, ended=ended), pairs)

    def test_each_word_with_its_index(self):
        signals = {"s": (2, ("a", "b"))}
        taking_signals = [("timer", "t"), ("await", "t", "x"), ("take", "s", "x"), ("take", "s", "x"), ("take", "s", "x")]
        old = program_of(taking_signals, signals=signals)
        for new, history, at, word in [
            (program_of(HEAD, inputs=("stop",)), BEGUN, 0, "word"),
            (program_of(taking_signals, signals={"s": (2, ("a",))}), BEGUN + [("signal", "s", "b")], 2, "word"),
            (program_of([("timer", "t"), ("both", ([("await", "t", "x")], [("await", "t", "x")]))]), BEGUN + [("signal", "s", "a")], 2, "word"),
            (program_of(taking_signals, signals={"s": (1, ("a", "b"))}), BEGUN + [("signal", "s", "a")] * 2, 3, "full"),
            (program_of([("ask", "pay", "t")] + taking_signals[1:], signals=signals), BEGUN, 1, "other"),
            (program_of([("timer", "t")] + taking_signals, signals=signals), BEGUN, 0, "falls"),
            (program_of([("timer", "u")] + taking_signals, signals=signals), BEGUN, 2, "more"),
            (program_of([("take", "s", "x")], signals=signals), BEGUN, 1, "fewer"),
            (program_of(HEAD + [("await", "t", "x")], signals=signals), BEGUN + [("rang", 0)], 2, "falls"),
            (program_of(HEAD + [("note", "x", ("a",))], signals=signals), BEGUN + [("rang", 0)], 3, "more"),
            (program_of(HEAD + [("anew", "x")], signals=signals), BEGUN + [("rang", 0)], 3, "more"),
        ]:
            for ended in (False, True):
                self.assertEqual(parting(old, new, ended=ended), (history, at, word))
                self.assertEqual(taking(old, new, ended=ended), (history, at, word))
                self.assertIsNone(table(old, new, ended=ended))
                self.assertIsNone(table(old, new, kind="read", ended=ended))
        asking_pay = [("ask", "pay", "a"), ("await", "a", "x"), ("timer", "t"), ("await", "t", "x")]
        told = parting(program_of(asking_pay), program_of(asking_pay, asks={"pay": ("no",)}))
        self.assertEqual(told, ([("begin", "go"), ("asked", "pay"), ("answer", 0, "yes"), ("set",)], 2, "word"))

    def test_the_history_is_the_least_one(self):
        """Fewer turns first, then the turns as lists; with the numbers that the history has."""
        rows = [("timer", "z"), ("drop", "z")] * 9 + [("timer", "a"), ("timer", "b"), ("both", ([("await", "a", "x")], [("await", "b", "x")]))]
        wait = [("timer", "c"), ("await", "c", "y")]
        old = program_of(rows + wait)
        begun = [("begin", "go")] + [token for number in range(9) for token in (("set",), ("dropped", number))] + [("set",)] * 2
        told = parting(old, program_of(rows + [("part", [])]), ended=False)
        self.assertEqual(told, (begun + [("rang", 9), ("rang", 10), ("set",)], 23, "other"))
        # Both rings break in their first turn: 9 comes before 10.
        noted = program_of(rows[:-1] + [("both", ([("await", "a", "x"), ("note", "y", ("a",))], [("await", "b", "x"), ("note", "y", ("a",))]))] + wait)
        self.assertEqual(parting(old, noted), (begun + [("rang", 9)], 22, "more"))
        either = program_of([("if", "in", "a", HEAD + HEAD, []), ("timer", "u"), ("await", "u", "x")], inputs=("b", "a"))
        other = program_of([("if", "in", "a", HEAD + [("timer", "v")] + HEAD, []), ("timer", "u"), ("timer", "v"), ("await", "u", "x")],
                           inputs=("b", "a"))
        self.assertEqual(parting(either, other), ([("begin", "b"), ("set",)], 2, "more"))

    def test_open_histories_alone_or_all(self):
        old = program_of(HEAD)
        for new in (program_of(HEAD + HEAD), program_of(HEAD + [("end", "x")]), program_of(HEAD + [("anew", "x")])):
            self.assertIsNone(parting(old, new))
            self.assertIsNone(taking(old, new, ended=False))
            self.assertEqual(parting(old, new, ended=True)[0], BEGUN + [("rang", 0), ("ended", "done")])
            self.assertEqual(taking(old, new, ended=True)[1], 3)
            waiting = Book(old).standings()[0]
            self.assertEqual(table(old, new), [(waiting, read(new, BEGUN)[1])])
            self.assertIsNone(table(old, new, ended=True))
        same = program_of(HEAD + [("part", [])])
        self.assertIsNone(parting(old, same, ended=True))
        self.assertEqual(len(table(old, same, ended=True)), 2)
        self.assertEqual(table(old, same, ended=True)[1], (("over", "done"), ("over", "done")))
        ends = program_of([("if", "in", "go", [], HEAD)], inputs=("go", "on"))
        self.assertEqual(len(table(ends, ends)), 1)
        self.assertEqual(len(table(ends, ends, ended=True)), 2)
        self.assertEqual(table(program_of([]), program_of(HEAD)), [])
        self.assertIsNone(table(program_of([]), program_of(HEAD), ended=True))

    def test_gates_heal(self):
        old = program_of(HEAD + [("timer", "u"), ("await", "u", "x")])
        changed = [("timer", "u"), ("timer", "v"), ("await", "u", "x")]
        self.assertIsNotNone(parting(old, program_of(HEAD + changed)))
        gated = program_of(HEAD + [("gate", "g", changed, [("timer", "u"), ("await", "u", "x")])])
        past = program_of(HEAD + [("past", "g", changed)])
        self.assertIsNone(parting(old, gated))
        self.assertIsNone(parting(gated, past))
        self.assertIsNone(parting(gated, past, ended=True))
        # What gated reads, but does not write, the past row does not read.
        self.assertEqual(taking(gated, past), (BEGUN + [("rang", 0), ("set",)], 4, "more"))
        self.assertEqual(parting(gated, program_of(HEAD + changed)), (BEGUN + [("rang", 0), ("marked", "g"), ("set",), ("set",)], 3, "other"))
        self.assertIsNone(parting(program_of(HEAD + changed), past))

    def test_runs_that_go_round_for_ever(self):
        old = program_of([("loop", HEAD)])
        self.assertIsNone(parting(old, old, ended=True))
        self.assertEqual(len(table(old, old)), 2)
        counted = program_of(HEAD + HEAD + HEAD + [("loop", HEAD + [("put", "y", "b")])])
        self.assertIsNone(parting(old, counted))
        self.assertEqual(len(table(old, counted)), 5)
        once = program_of(HEAD + HEAD + HEAD)
        self.assertEqual(parting(old, once)[0], BEGUN + [("rang", 0), ("set",), ("rang", 1), ("set",), ("rang", 2), ("set",)])
        self.assertEqual(parting(old, once)[1:], (7, "other"))

    def test_no_histories_at_all(self):
        falls = program_of([("await", "t", "x")])
        for kind in ("write", "read"):
            for ended in (False, True):
                self.assertIsNone(asking(falls, program_of(HEAD), kind, ended))
                self.assertEqual(table(falls, program_of(HEAD), kind=kind, ended=ended), [])
                self.assertTrue(is_table(falls, program_of(HEAD), [], kind=kind, ended=ended))

    def test_programs_do_not_change_and_lists_are_new(self):
        old, new = program_of(HEAD + HEAD), program_of(HEAD + [("timer", "u")] + HEAD)
        told = parting(old, new)
        told[0].append("more")
        self.assertEqual(parting(old, new)[0], BEGUN + [("rang", 0), ("set",)])
        pairs = table(old, old)
        pairs.clear()
        self.assertEqual(len(table(old, old)), 2)
        self.assertEqual((old.rows(), new.rows()), (HEAD + HEAD, HEAD + [("timer", "u")] + HEAD))


class TableTest(OverTest):
    ROWS = [("both", ([("timer", "t"), ("await", "t", "x")], [("take", "s", "y"), ("gate", "g", [], [])])), ("loop", [("take", "s", "y")])]

    def setUp(self):
        self.old = program_of(self.ROWS, signals={"s": (1, ("a", "b"))})
        self.new = program_of([("part", [])] + self.ROWS, signals={"s": (2, ("b", "a"))})

    def test_other_lists(self):
        for kind in ("write", "read"):
            pairs = table(self.old, self.new, kind=kind)
            self.assertGreater(len(pairs), 5)
            self.assertEqual([len(pair) for pair in pairs], [2] * len(pairs))
            self.assertEqual(len(set(pairs)), len(pairs))
            for value, expected in [
                (pairs, True), (copy.deepcopy(pairs), True), (pairs[::-1], True), (pairs * 2, True), (pairs + [pairs[0]], True),
                (pairs + all_odd_values(), True), (all_odd_values() + pairs, True), (pairs + [pairs], True), (pairs[1:], False),
                (pairs[:-1], False), (pairs[:2] + pairs[3:], False), ([], False), (tuple(pairs), False), ({pair: 1 for pair in pairs}, False),
                ([list(pair) for pair in pairs], False), ([pair[::-1] for pair in pairs], False), ([pair[0] for pair in pairs], False),
                ([pair + (1,) for pair in pairs], False), ([(pair,) for pair in pairs], False), ([pairs], False),
            ]:
                self.assertIs(is_table(self.old, self.new, value, kind=kind), expected)
                self.assertIs(is_table(self.old, self.new, value, kind=kind, ended=True), expected)

    def test_values_that_are_no_list(self):
        for value in all_odd_values():
            self.assertIs(is_table(self.old, self.new, value), False)
        self.assertIs(is_table(self.old, self.new, value=table(self.old, self.new)), True)

    def test_items_that_equal_pairs(self):
        pairs = table(self.old, self.new, kind="read")
        flags = [(self.exchanged(old), self.exchanged(new)) for old, new in pairs]
        self.assertEqual(flags, pairs)
        self.assertNotEqual(repr(flags), repr(pairs))
        self.assertIs(is_table(self.old, self.new, flags, kind="read"), True)
        self.assertIs(is_table(self.old, self.new, [(old, new[:3]) for old, new in pairs], kind="read"), False)

    def exchanged(self, value):
        if isinstance(value, tuple):
            return tuple(self.exchanged(part) for part in value)
        if isinstance(value, bool):
            return int(value)
        return bool(value) if value in (0, 1) else value

    def test_each_item_counts(self):
        pairs = table(self.old, self.new)
        for number in range(len(pairs)):
            self.assertIs(is_table(self.old, self.new, pairs[:number] + pairs[number + 1:]), False)
            changed = (pairs[number][0], ("over", "done"))
            self.assertIs(is_table(self.old, self.new, pairs[:number] + [changed] + pairs[number + 1:]), False)

    def test_new_has_to_read_all(self):
        broken = program_of(self.ROWS + [("part", [])], signals={"s": (1, ("a",))})
        self.assertIsNone(table(self.old, broken))
        everything = [(old, new) for old in Book(self.old, kind="read").standings() for new in Book(broken, kind="read").standings()]
        self.assertIs(is_table(self.old, broken, everything), False)
        self.assertIs(is_table(self.old, self.old, [(one, one) for one in Book(self.old).standings()]), True)

    def test_a_table_of_open_histories_is_none_of_all(self):
        old = program_of(HEAD)
        pairs = table(old, old)
        self.assertIs(is_table(old, old, pairs), True)
        self.assertIs(is_table(old, old, pairs, ended=True), False)
        self.assertIs(is_table(old, old, table(old, old, ended=True)), True)
        self.assertIs(is_table(old, program_of(HEAD + HEAD), pairs, ended=True), False)

    def test_is_table_has_no_limit(self):
        """A program with more than 10000 standings, which differ in their boxes alone."""
        signals = {"s": (3, ("a", "b", "c")), "t": (3, ("a", "b", "c")), "u": (2, ("a", "b"))}
        program = program_of(HEAD, signals=signals)
        first = read(program, BEGUN)[1]
        boxes = [[(name, words) for words in boxes_of(*signals[name])] for name in "stu"]
        standings = [first[:4] + (three,) + first[5:] for three in itertools.product(*boxes)]
        pairs = [(standing, standing) for standing in standings]
        self.assertGreater(len(pairs), 10000)
        self.assert_raises(LimitExceeded, {"limit": 10000}, table, program, program)
        self.assertIs(is_table(program, program, pairs), True)
        self.assertIs(is_table(program, program, pairs[:-1]), False)


def boxes_of(room, words):
    """All that the box of a signal may hold."""
    return [box for many in range(room + 1) for box in itertools.product(words, repeat=many)]


class LimitTest(OverTest):
    def test_pairs_ahead_of_the_least_break(self):
        """The pairs after histories of fewer turns than the broken one, whatever stands beside that one."""
        rows = [("note", "x", ("a", "b", "c"))] + HEAD + HEAD
        old = program_of(rows)
        late = program_of(rows + [("note", "x", ("a",))])
        for new, turns, most, word in [(program_of(rows[:3] + [("timer", "u")] + HEAD), 2, 3, "more"), (program_of(rows[:1] + HEAD), 2, 3, "other"),
                                       (program_of([("note", "x", ("a", "b"))] + HEAD + HEAD), 1, 0, "other")]:
            for kind in ("write", "read"):
                told = asking(old, new, kind, limit=max(most, 1), ended=True)
                self.assertEqual((len(cut(told[0])), told[2]), (turns, word))
                self.assertIsNone(table(old, new, kind=kind, ended=True, limit=max(most, 1)))
                if most > 1:
                    for limit in range(1, most):
                        self.assert_raises(LimitExceeded, {"limit": limit}, asking, old, new, kind, True, limit)
                        self.assert_raises(LimitExceeded, {"limit": limit}, table, old, new, kind=kind, ended=True, limit=limit)
        # Three pairs after one turn, one after two turns; the break is in the third turn.
        self.assertEqual(parting(old, late, ended=True, limit=4)[2], "other")
        self.assert_raises(LimitExceeded, {"limit": 3}, parting, old, late, ended=True, limit=3)
        # Open histories alone: the least break is none, and the end does not count.
        self.assertIsNone(parting(old, late, limit=4))
        self.assert_raises(LimitExceeded, {"limit": 3}, parting, old, late, limit=3)

    def test_all_pairs_where_there_is_no_break(self):
        program = program_of([("note", "x", ("a", "b"))] + HEAD)
        for kind in ("write", "read"):
            for ended, many in ((False, 2), (True, 3)):
                self.assertIsNone(asking(program, program, kind, ended, many))
                self.assertEqual(len(table(program, program, kind=kind, ended=ended, limit=many)), many)
                for limit in range(1, many):
                    self.assert_raises(LimitExceeded, {"limit": limit}, asking, program, program, kind, ended, limit)
                    self.assert_raises(LimitExceeded, {"limit": limit}, table, program, program, kind=kind, ended=ended, limit=limit)

    def test_a_limit_that_is_passed_on_the_way_to_the_break_of_the_same_level(self):
        """Pairs that have as many turns as the broken history do not count, also those that are less."""
        rows = [("note", "x", ("a", "b", "c")), ("note", "y", ("a", "b", "c"))] + [("timer", "t"), ("await", "t", "z")]
        new = program_of(rows[:1] + [("if", "x", "c", [("timer", "u")], [])] + rows[1:])
        told = parting(program_of(rows), new, limit=1)
        self.assertEqual(told, ([("begin", "go"), ("noted", "c"), ("noted", "a"), ("set",)], 2, "other"))


class ArgumentsTest(OverTest):
    def test_wrong_arguments_in_their_order(self):
        program = program_of(HEAD)
        for value in all_odd_values():
            is_program = isinstance(value, Program)
            for call in (parting, taking, table):
                if not is_program:
                    self.assert_wrong("old", call, value, None, ended=None, limit=None)
                    self.assert_wrong("new", call, program, value, ended=None, limit=None)
                if not isinstance(value, bool):
                    self.assert_wrong("ended", call, program, program, ended=value, limit=None)
                if type(value) is not int or not 1 <= value <= 10000:
                    self.assert_wrong("limit", call, program, program, limit=value)
            if not is_program:
                self.assert_wrong("old", is_table, value, None, None, kind=None, ended=None)
                self.assert_wrong("new", is_table, program, value, None, kind=None, ended=None)
            self.assert_wrong("kind", table, program, program, kind=value, ended=None, limit=None)
            self.assert_wrong("kind", is_table, program, program, None, kind=value, ended=None)
            if not isinstance(value, bool):
                self.assert_wrong("ended", is_table, program, program, None, ended=value)
        self.assert_wrong("kind", table, program, program, kind="writes")
        self.assert_wrong("limit", parting, program, program, limit=10001)
        self.assert_wrong("limit", table, program, program, limit=0)
        self.assert_wrong("limit", taking, program, program, limit=True)

    def test_arguments_by_name(self):
        program = program_of(HEAD)
        self.assertIsNone(parting(new=program, old=program, limit=10000, ended=True))
        self.assertIsNone(taking(limit=1, new=program, old=program))
        self.assertEqual(len(table(new=program, old=program, limit=10000, ended=True, kind="read")), 2)
        self.assertIs(is_table(ended=False, kind="write", value=[], new=program, old=program), False)


class OverSearchTest(Counted):
    """Against slow searches, for pairs of programs made by chance."""

    def test_pairs_of_programs_made_by_chance(self):
        # The last ones are those whose breaks have the rare word "fewer".
        for seed in list(range(240)) + [261, 1090, 1146, 1242, 1290, 1445]:
            chance = random.Random(seed)
            old = (round_program if seed % 4 == 0 else small_program)(chance, Program)
            new = changed_program(chance, old, InvalidProgram)
            kind = "read" if seed % 3 == 0 else "write"
            with self.subTest(seed=seed):
                levels, _, whole = all_histories(old, kind, 4, 30)
                for ended in (False, True):
                    self.compare(old, new, kind, ended, levels, whole)
        self.assert_seen("break", "no break", "limit", *[("word", word) for word in ("word", "other", "more", "falls", "fewer")])

    def told_by(self, new, history):
        try:
            return ("reads", read_world(new, history).standing())
        except ModelBreaks as breach:
            return ("breaks",) + breach.args

    def compare(self, old, new, kind, ended, levels, whole):
        pairs = {}
        for level in levels:
            if pairs and len(pairs) > 1:
                self.see("limit")
                with self.assertRaises(LimitExceeded):
                    asking(old, new, kind, ended, len(pairs) - 1)
            below = max(len(pairs), 1)
            for history, standing in level:
                if ended or standing[0] == "at":
                    told = self.told_by(new, history)
                    if told[0] == "breaks":
                        return self.compare_break(old, new, kind, ended, below, history, told)
                    pairs.setdefault((standing, told[1]), True)
        if whole:
            self.see("no break")
            self.assertIsNone(asking(old, new, kind, ended, max(len(pairs), 1)))
            told = table(old, new, kind=kind, ended=ended, limit=max(len(pairs), 1))
            self.assertEqual(told, list(pairs))
            self.assertTrue(is_table(old, new, list(pairs), kind=kind, ended=ended))
            self.assertEqual(is_table(old, new, list(pairs)[1:], kind=kind, ended=ended), not pairs)
        else:
            told = table(old, new, kind=kind, ended=ended)
            self.assertEqual(told[:len(pairs)] if told is not None else list(pairs), list(pairs))

    def compare_break(self, old, new, kind, ended, limit, history, told):
        self.see("break")
        self.see(("word", told[2]))
        self.assertEqual(asking(old, new, kind, ended, limit), (tokens_of(history),) + told[1:])
        self.assertIsNone(table(old, new, kind=kind, ended=ended, limit=limit))


if __name__ == "__main__":
    unittest.main()
