"""Reading, [3.1] to [3.7], with [2.3], [2.9], [2.10] and what the general rules say of it."""

import copy
import unittest

from openruns.errors import Breaks, Falls, InvalidArgument, InvalidHistory
from openruns.programs import Program
from openruns.reading import aged, check, cut, good_turns, numbered, read, resume
from openruns.runs import Run
from tests.helpers import Raises, all_odd_values

ASKS = {"pay": ("yes", "no"), "tell": ("ok",)}
SIGNALS = {"stop": (2, ("now", "later"))}

# Every form of a token, over five turns; thing 2 stays open for two turns.
GOOD = [
    ("begin", "go"), ("asked", "pay"), ("set",), ("set",), ("marked", "g"), ("noted", "w"),
    ("signal", "stop", "now"), ("dropped", 1),
    ("answer", 0, "yes"), ("asked", "tell"), ("set",), ("dropped", 3),
    ("rang", 2), ("set",),
    ("rang", 5), ("dropped", 4), ("ended", "x"),
]
GOOD_TURNS = [GOOD[:6], GOOD[6:8], GOOD[8:12], GOOD[12:14], GOOD[14:]]
GOOD_AGED = [
    GOOD[:6],
    [("signal", "stop", "now"), ("dropped", 1)],
    [("answer", 0, "yes"), ("asked", "tell"), ("set",), ("dropped", 2)],
    [("rang", 0), ("set",)],
    [("rang", 1), ("dropped", 0), ("ended", "x")],
]

# What is no token at all, whatever stands before it.
NO_TOKENS = [
    ("begin",), ("begin", "go", "go"), ("begin", 1), ("begin", "Go"), ("begin", ""), ["begin", "go"], "begin",
    ("answer", 0), ("answer", 0, "yes", "no"), ("answer", "yes", 0), ("answer", "0", "yes"), ("answer", -1, "yes"),
    ("answer", None, "yes"), ("answer", 0, "toolongword"), ("answer", 0, 1), ("answer", (0,), "yes"), ["answer", 0, "yes"],
    ("rang",), ("rang", 0, 0), ("rang", "t"), ("rang", -1), ("rang", b"0"), ("rang", [0]), ("rang", {}),
    ("signal", "stop"), ("signal", "stop", "now", "now"), ("signal", 0, "now"), ("signal", "stop", 0), ("signal", "Stop", "now"),
    ("asked",), ("asked", "pay", "a"), ("asked", 0), ("asked", ""), ("asked", b"pay"),
    ("set", "t"), ("set", 0), "set", ["set"],
    ("dropped",), ("dropped", 0, 0), ("dropped", "a"), ("dropped", -1), ("dropped", None),
    ("noted",), ("noted", "w", "w"), ("noted", 1), ("noted", ("w",)),
    ("marked",), ("marked", "g", "g"), ("marked", True), ("marked", "g1"),
    ("ended",), ("ended", "x", "x"), ("ended", None), ("ended", "x "),
    ("anew",), ("anew", "x", "x"), ("anew", 0),
    ("none",), ("Begin", "go"), ("settled", "g"), (0, "go"), (("set",),), (b"set",), ((), "go"), ([],), ({},), (None,), (True,),
]


class ReadingTest(Raises, unittest.TestCase):
    def assert_invalid(self, at, history):
        for call in (check, cut, aged):
            self.assert_raises(InvalidHistory, {"at": at}, call, history)
        program = Program([])
        for call in (read, good_turns, resume):
            self.assert_raises(InvalidHistory, {"at": at}, call, program, history)

    def assert_breaks(self, program, history, at, word, turns):
        before = copy.deepcopy(history)
        self.assertEqual(read(program, history), ("breaks", at, word))
        self.assertEqual(good_turns(program, history), turns)
        self.assert_raises(Breaks, {"at": at, "word": word}, resume, program, history)
        self.assertEqual(history, before)

    def assert_reads(self, program, history, standing=None):
        told = read(program, history)
        self.assertEqual(told[0], "reads", told)
        self.assertEqual(len(told), 2)
        self.assertEqual(good_turns(program, history), check(history))
        run = resume(program, history)
        self.assertEqual(run.history(), history)
        self.assertEqual(run.standing(), told[1])
        if standing is not None:
            self.assertEqual(told[1], standing)
        return run


def program_of(rows, **more):
    return Program(rows, **{"asks": ASKS, "signals": SIGNALS, **more})


class WellFormedTest(ReadingTest):
    def test_each_form_of_a_token(self):
        self.assertEqual(check(GOOD), 5)
        self.assertEqual(cut(GOOD), GOOD_TURNS)
        self.assertEqual(check(GOOD[:-1] + [("anew", "x")]), 5)

    def test_the_first_tokens_of_a_history(self):
        for many in range(1, len(GOOD)):
            turns = sum(1 for token in GOOD[:many] if token[0] in ("begin", "answer", "rang", "signal"))
            self.assertEqual(check(GOOD[:many]), turns)
            self.assertEqual(sum(cut(GOOD[:many]), []), GOOD[:many])

    def test_no_list(self):
        for value in all_odd_values() + [tuple(GOOD), {0: ("begin", "go")}, ("begin", "go")]:
            if not isinstance(value, list):
                with self.subTest(value=repr(value)[:60]):
                    self.assert_invalid(-1, value)

    def test_the_empty_list(self):
        self.assert_invalid(0, [])

    def test_no_token_at_each_place(self):
        for value in NO_TOKENS + all_odd_values():
            with self.subTest(value=repr(value)[:60]):
                for at in range(len(GOOD) + 1):
                    self.assert_invalid_early(at, GOOD[:at] + [value] + GOOD[at:])
                self.assert_invalid(0, [value])
                self.assert_invalid(3, GOOD[:3] + [value])

    def assert_invalid_early(self, at, history):
        self.assert_raises(InvalidHistory, {"at": at}, check, history)

    def test_begin_stands_first_and_only_there(self):
        for at in range(1, len(GOOD)):
            self.assert_invalid(at, GOOD[:at] + [("begin", "go")] + GOOD[at:])
        for token in GOOD[1:]:
            self.assert_invalid(0, [token])
            self.assert_invalid(0, [token] + GOOD)
        self.assert_invalid(0, [("set",), ("begin", "go"), ("rang", 0)])

    def test_an_answer_needs_an_open_ask(self):
        start = [("begin", "go"), ("set",), ("asked", "pay"), ("asked", "pay")]
        self.assertEqual(check(start + [("answer", 1, "any"), ("answer", 2, "other")]), 3)
        for number in (0, 3, 4, 10 ** 30):
            self.assert_invalid(4, start + [("answer", number, "yes")])
        self.assert_invalid(5, start + [("answer", 1, "yes"), ("answer", 1, "yes")])
        self.assert_invalid(5, start + [("dropped", 1), ("answer", 1, "yes")])
        self.assert_invalid(1, [("begin", "go"), ("answer", 0, "yes"), ("asked", "pay")])

    def test_a_ring_needs_an_open_timer(self):
        start = [("begin", "go"), ("asked", "pay"), ("set",), ("set",)]
        self.assertEqual(check(start + [("rang", 2), ("rang", 1)]), 3)
        for number in (0, 3, 10 ** 30):
            self.assert_invalid(4, start + [("rang", number)])
        self.assert_invalid(5, start + [("rang", 1), ("rang", 1)])
        self.assert_invalid(5, start + [("dropped", 1), ("rang", 1)])
        self.assert_invalid(1, [("begin", "go"), ("rang", 0), ("set",)])

    def test_a_drop_needs_an_open_thing(self):
        start = [("begin", "go"), ("asked", "pay"), ("set",)]
        self.assertEqual(check(start + [("dropped", 1), ("dropped", 0)]), 1)
        for number in (2, 10 ** 30):
            self.assert_invalid(3, start + [("dropped", number)])
        for first in (("dropped", 0), ("answer", 0, "yes")):
            self.assert_invalid(4, start + [first, ("dropped", 0)])
        self.assert_invalid(4, start + [("rang", 1), ("dropped", 1)])
        self.assert_invalid(1, [("begin", "go"), ("dropped", 0), ("set",)])

    def test_integers_and_flags_are_told_apart(self):
        start = [("begin", "go"), ("asked", "pay"), ("asked", "pay")]
        for flag in (False, True):
            self.assert_invalid(3, start + [("answer", flag, "yes")])
            self.assert_invalid(3, start + [("dropped", flag)])
            self.assert_invalid(3, [("begin", "go"), ("set",), ("set",), ("rang", flag)])

    def test_a_token_behind_an_end(self):
        for end in (("ended", "x"), ("anew", "x")):
            for token in [("ended", "x"), ("anew", "x"), ("set",), ("rang", 0), ("signal", "a", "b"), ("noted", "a"), None, ()]:
                self.assert_invalid(3, [("begin", "go"), ("set",), end, token])
                self.assert_invalid(3, [("begin", "go"), ("set",), end, token, token])

    def test_any_names_and_words(self):
        history = [("begin", "z"), ("asked", "noone"), ("answer", 0, "maybe"), ("signal", "none", "what"), ("marked", "any")]
        self.assertEqual(check(history), 3)

    def test_nothing_changes_and_lists_are_new(self):
        history = list(GOOD)
        for call in (cut, aged):
            told = call(history)
            told[0].append("junk")
            del told[1:]
            self.assertEqual(history, GOOD)
            self.assertEqual(len(call(history)), 5)
        turns = copy.deepcopy(GOOD_AGED)
        numbered(turns).append("junk")
        self.assertEqual(turns, GOOD_AGED)


class AgeTest(ReadingTest):
    def assert_inverse(self, history, turns):
        self.assertEqual(aged(history), turns)
        self.assertEqual(numbered(turns), history)

    def test_all_forms(self):
        self.assert_inverse(GOOD, GOOD_AGED)
        for many in range(1, 6):
            self.assert_inverse(sum(GOOD_TURNS[:many], []), GOOD_AGED[:many])

    def test_things_that_ended_in_the_turn_keep_their_place_until_its_end(self):
        history = [("begin", "go"), ("set",), ("set",), ("set",), ("rang", 0), ("set",), ("dropped", 1), ("dropped", 3),
                   ("rang", 2)]
        turns = [history[:4], [("rang", 0), ("set",), ("dropped", 1), ("dropped", 3)], [("rang", 0)]]
        self.assert_inverse(history, turns)

    def test_a_thing_started_and_dropped_in_one_turn(self):
        history = [("begin", "go"), ("set",), ("dropped", 0), ("asked", "pay"), ("answer", 1, "yes"), ("set",), ("rang", 2)]
        turns = [history[:4], [("answer", 0, "yes"), ("set",)], [("rang", 0)]]
        self.assert_inverse(history, turns)

    def test_many_things_ended_in_one_turn(self):
        history = [("begin", "go")] + [("set",)] * 6 + [("signal", "a", "b"), ("dropped", 4), ("dropped", 0), ("dropped", 2)]
        history += [("rang", 5), ("dropped", 1), ("rang", 3)]
        turns = [history[:7], history[7:11], [("rang", 2), ("dropped", 0)], [("rang", 0)]]
        self.assert_inverse(history, turns)

    def test_what_is_no_list_of_turns(self):
        for value in all_odd_values() + [tuple(GOOD_AGED), [tuple(turn) for turn in GOOD_AGED], GOOD, [GOOD]]:
            with self.subTest(value=repr(value)[:60]):
                self.assert_raises(InvalidArgument, {"part": "turns"}, numbered, value)

    def assert_no_turns(self, *turns):
        self.assert_raises(InvalidArgument, {"part": "turns"}, numbered, list(turns))

    def test_turns_that_are_cut_wrongly(self):
        begin = [("begin", "go"), ("set",)]
        self.assert_no_turns()
        self.assert_no_turns([])
        self.assert_no_turns(begin, [])
        self.assert_no_turns([], begin)
        self.assert_no_turns(begin[:1], begin[1:])
        self.assert_no_turns(begin + [("rang", 0)])
        self.assert_no_turns([("set",)])
        self.assert_no_turns(begin, begin)
        self.assert_no_turns([("rang", 0)])
        self.assert_no_turns(begin, [("rang", 0), ("ended", "x")], [("signal", "a", "b")])
        self.assert_no_turns(begin + [("ended", "x"), ("set",)])

    def test_wrong_ages(self):
        begin = [("begin", "go"), ("set",), ("asked", "pay")]
        self.assertEqual(numbered([begin, [("rang", 0)], [("answer", 0, "yes")]])[-1], ("answer", 1, "yes"))
        for token in [("rang", 1), ("rang", 2), ("answer", 0, "yes"), ("rang", -1), ("rang", False), ("answer", True, "yes")]:
            self.assert_no_turns(begin, [token])
        # By age, the ask is the first one now; as the history numbers it, it is thing 1.
        self.assert_no_turns(begin, [("rang", 0)], [("answer", 1, "yes")])
        self.assert_no_turns(begin, [("rang", 0), ("dropped", 0)])
        self.assert_no_turns(begin, [("rang", 0), ("dropped", 1), ("dropped", 1)])
        self.assert_no_turns(begin, [("signal", "a", "b"), ("dropped", 2)])
        self.assert_no_turns(begin, [("signal", "a", "b"), ("dropped", True)])

    def test_no_token_at_each_place(self):
        for value in NO_TOKENS + all_odd_values():
            for at, turn in enumerate(GOOD_AGED):
                for place in range(len(turn) + 1):
                    turns = GOOD_AGED[:at] + [turn[:place] + [value] + turn[place:]] + GOOD_AGED[at + 1:]
                    self.assert_raises(InvalidArgument, {"part": "turns"}, numbered, turns)


class WordTest(ReadingTest):
    """Breaks at the outer token, before any row."""

    def test_the_begin_word(self):
        falls = [("await", "a", "x")]
        for rows in ([], falls):
            program = program_of(rows, inputs=("go", "b"))
            self.assert_breaks(program, [("begin", "a")], 0, "word", 0)
            self.assert_breaks(program, [("begin", "a"), ("ended", "done")], 0, "word", 0)
        self.assert_reads(program_of([], inputs=("go", "b")), [("begin", "b"), ("ended", "done")], ("over", "done"))
        self.assert_breaks(program_of(falls, inputs=("b",)), [("begin", "b")], 0, "falls", 0)

    def test_an_answer(self):
        rows = [("ask", "pay", "a"), ("timer", "t"), ("await", "a", "x"), ("end", "x")]
        history = [("begin", "go"), ("asked", "pay"), ("set",), ("answer", 0, "yes"), ("ended", "yes")]
        self.assert_reads(program_of(rows), history, ("over", "yes"))
        self.assert_breaks(program_of(rows, asks={"pay": ("no",), "tell": ("yes",)}), history, 3, "word", 1)

    def test_an_answer_of_another_ask(self):
        rows = [("ask", "pay", "a"), ("ask", "tell", "b"), ("await", "b", "x")]
        start = [("begin", "go"), ("asked", "pay"), ("asked", "tell")]
        self.assert_breaks(program_of(rows), start + [("answer", 1, "yes"), ("ended", "done")], 3, "word", 1)
        self.assert_breaks(program_of(rows), start + [("answer", 0, "ok")], 3, "word", 1)
        self.assert_reads(program_of(rows), start + [("answer", 0, "no"), ("answer", 1, "ok"), ("ended", "done")])

    def test_a_signal_and_its_word(self):
        program = program_of([("timer", "t"), ("await", "t", "x")])
        start = [("begin", "go"), ("set",)]
        self.assert_breaks(program, start + [("signal", "call", "now")], 2, "word", 1)
        self.assert_breaks(program, start + [("signal", "stop", "yes")], 2, "word", 1)
        self.assert_breaks(program, start + [("signal", "stop", "now"), ("signal", "stop", "yes")], 3, "word", 2)
        self.assert_breaks(program_of([("timer", "t"), ("await", "t", "x")], signals={}), start + [("signal", "stop", "now")],
                           2, "word", 1)

    def test_full(self):
        program = program_of([("timer", "t"), ("await", "t", "x"), ("take", "stop", "x"), ("end", "x")])
        history = [("begin", "go"), ("set",), ("signal", "stop", "later"), ("signal", "stop", "now")]
        self.assert_reads(program, history)
        self.assert_reads(program, history + [("rang", 0), ("ended", "later")], ("over", "later"))
        self.assert_breaks(program, history + [("signal", "stop", "now"), ("rang", 0)], 4, "full", 3)
        self.assert_breaks(program, history + [("signal", "stop", "yes")], 4, "word", 3)

    def test_full_by_the_room_of_the_program_that_reads(self):
        history = [("begin", "go"), ("signal", "stop", "now"), ("signal", "stop", "now"), ("signal", "stop", "now")]
        rows = [("loop", [("take", "stop", "x"), ("timer", "t"), ("await", "t", "x")])]
        for room in (1, 2, 3):
            waiting = program_of([("both", ([("take", "call", "x")], []))], signals={"stop": (room, ("now",)), "call": (1, ("a",))})
            if room < 3:
                self.assert_breaks(waiting, history, room + 1, "full", room + 1)
            else:
                self.assert_reads(waiting, history)
        self.assert_breaks(program_of(rows, signals={"stop": (1, ("now",))}),
                           [("begin", "go"), ("signal", "stop", "now"), ("set",), *history[1:]], 4, "full", 3)


class CommandTest(ReadingTest):
    """Breaks at a command."""

    def test_another_command(self):
        cases = [
            ([("timer", "t")], ("asked", "pay")), ([("ask", "pay", "a")], ("set",)), ([("ask", "pay", "a")], ("asked", "tell")),
            ([("end", "x")], ("ended", "done")), ([("end", "x")], ("anew", "none")), ([("anew", "in")], ("anew", "none")),
            ([("anew", "x")], ("ended", "none")), ([], ("ended", "none")), ([], ("set",)), ([], ("marked", "g")),
            ([("timer", "t")], ("marked", "g")), ([("note", "x", ("a", "b"))], ("noted", "c")),
            ([("note", "x", ("a", "b"))], ("marked", "a")), ([("note", "x", ("a",))], ("set",)), ([("timer", "t")], ("noted", "t")),
        ]
        for rows, command in cases:
            with self.subTest(rows=rows, command=command):
                self.assert_breaks(program_of(rows), [("begin", "go"), command], 1, "other", 0)

    def test_another_drop(self):
        rows = [("timer", "t"), ("timer", "u"), ("drop", "u"), ("await", "t", "x")]
        start = [("begin", "go"), ("set",), ("set",)]
        self.assert_breaks(program_of(rows), start + [("dropped", 0)], 3, "other", 0)
        self.assert_reads(program_of(rows), start + [("dropped", 1)])

    def test_another_command_in_a_later_turn(self):
        rows = [("timer", "t"), ("await", "t", "x"), ("timer", "t"), ("ask", "pay", "a"), ("await", "a", "x")]
        history = [("begin", "go"), ("set",), ("rang", 0), ("set",), ("set",), ("signal", "stop", "now")]
        self.assert_breaks(program_of(rows), history, 4, "other", 1)

    def test_more(self):
        cases = [[("timer", "t")], [("ask", "pay", "a")], [("end", "x")], [("anew", "x")], [], [("note", "x", ("a",))]]
        for rows in cases:
            with self.subTest(rows=rows):
                self.assert_breaks(program_of(rows), [("begin", "go")], 1, "more", 0)
                self.assert_breaks(program_of(rows), [("begin", "go"), ("signal", "stop", "now"), ("set",)], 1, "more", 0)
        dropping = program_of([("timer", "t"), ("drop", "t"), ("take", "stop", "x")])
        self.assert_breaks(dropping, [("begin", "go"), ("set",)], 2, "more", 0)
        self.assert_breaks(dropping, [("begin", "go"), ("set",), ("rang", 0), ("set",)], 2, "more", 0)

    def test_more_in_the_last_turn_is_at_the_length(self):
        rows = [("timer", "t"), ("await", "t", "x"), ("timer", "t"), ("timer", "u"), ("await", "t", "x")]
        history = [("begin", "go"), ("set",), ("rang", 0), ("set",)]
        self.assert_breaks(program_of(rows), history, 4, "more", 1)
        self.assert_breaks(program_of(rows), history[:3], 3, "more", 1)

    def test_fewer(self):
        waiting = program_of([("timer", "t"), ("await", "t", "x"), ("await", "t", "x")])
        self.assert_breaks(waiting, [("begin", "go"), ("set",), ("set",)], 2, "fewer", 0)
        self.assert_breaks(waiting, [("begin", "go"), ("set",), ("noted", "a"), ("marked", "g"), ("rang", 0)], 2, "fewer", 0)
        self.assert_breaks(waiting, [("begin", "go"), ("set",), ("signal", "stop", "now"), ("ended", "done")], 3, "fewer", 1)
        self.assert_breaks(program_of([("take", "stop", "x")]), [("begin", "go"), ("marked", "g")], 1, "fewer", 0)

    def test_falls_is_at_the_outer_token(self):
        busy = program_of([("timer", "t"), ("await", "t", "x"), ("timer", "u"), ("timer", "u")])
        free = program_of([("timer", "t"), ("await", "t", "x"), ("timer", "u"), ("await", "t", "x")])
        long = program_of([("timer", "t"), ("await", "t", "x"), ("timer", "u"), ("loop", [])])
        notes = program_of([("timer", "t"), ("await", "t", "x"), ("timer", "u")] + [("note", "x", ("a",))] * 4)
        start = [("begin", "go"), ("set",)]
        for program in (busy, free, long):
            for rest in ([], [("set",)], [("noted", "a")], [("ended", "done")]):
                self.assert_breaks(program, start + [("rang", 0), ("set",)] + rest, 2, "falls", 1)
        for rest in ([], [("noted", "a")], [("set",)]):
            self.assert_breaks(notes, start + [("rang", 0), ("set",)] + [("noted", "a")] * 3 + rest, 2, "falls", 1)
        self.assert_breaks(program_of([("await", "t", "x")]), [("begin", "go")], 0, "falls", 0)

    def test_what_goes_wrong_first_ends_the_reading(self):
        falling = program_of([("timer", "t"), ("await", "u", "x")])
        self.assert_breaks(falling, [("begin", "go"), ("asked", "pay")], 1, "other", 0)
        self.assert_breaks(falling, [("begin", "go")], 1, "more", 0)
        self.assert_breaks(falling, [("begin", "go"), ("set",), ("ended", "x")], 0, "falls", 0)
        self.assert_breaks(program_of([("timer", "t"), ("timer", "t")]), [("begin", "go"), ("set",), ("noted", "a")], 0, "falls", 0)
        three = [("begin", "go"), ("noted", "a"), ("noted", "a")]
        notes = program_of([("note", "x", ("a",))] * 4)
        self.assert_breaks(notes, three, 3, "more", 0)
        self.assert_breaks(notes, three + [("set",)], 3, "other", 0)

    def test_long_is_asked_before_the_commands(self):
        rows = [("note", "x", ("a",)), ("loop", [("put", "y", "a")])]
        self.assert_breaks(program_of(rows), [("begin", "go"), ("noted", "a"), ("set",)], 0, "falls", 0)
        many = [("part", [("put", "x", "a")])] * 20 + [("if", "x", "a", [("put", "x", "b")], [])] * 8
        self.assert_reads(program_of(many), [("begin", "go"), ("ended", "done")])

    def test_notes(self):
        program = program_of([("note", "x", ("b", "a")), ("note", "y", ("c",)), ("end", "x")])
        self.assert_reads(program, [("begin", "go"), ("noted", "a"), ("noted", "c"), ("ended", "a")], ("over", "a"))
        self.assert_reads(program, [("begin", "go"), ("noted", "b"), ("noted", "c"), ("ended", "b")], ("over", "b"))
        self.assert_breaks(program, [("begin", "go"), ("noted", "c"), ("noted", "a")], 1, "other", 0)
        self.assert_breaks(program, [("begin", "go"), ("noted", "a"), ("ended", "a")], 2, "other", 0)
        self.assert_breaks(program, [("begin", "go"), ("noted", "a"), ("noted", "c"), ("ended", "c")], 3, "other", 0)


class GateTest(ReadingTest):
    ROWS = [("timer", "t"), ("gate", "g", [("timer", "u")], [("ask", "pay", "u")]), ("await", "t", "x"),
            ("gate", "g", [("put", "x", "new")], [("put", "x", "old")]), ("end", "x")]

    def test_as_new_and_as_old(self):
        program = program_of(self.ROWS)
        new = [("begin", "go"), ("set",), ("marked", "g"), ("set",)]
        old = [("begin", "go"), ("set",), ("asked", "pay")]
        self.assertEqual(self.assert_reads(program, new).standing()[5], (("g", True),))
        self.assertEqual(self.assert_reads(program, old).standing()[5], (("g", False),))
        self.assertIs(read(program, old)[1][5][0][1], False)
        self.assertIs(read(program, new)[1][5][0][1], True)
        self.assert_reads(program, new + [("rang", 0), ("ended", "new")], ("over", "new"))
        self.assert_reads(program, old + [("rang", 0), ("ended", "old")], ("over", "old"))
        self.assert_breaks(program, new + [("rang", 0), ("ended", "old")], 5, "other", 1)
        self.assert_breaks(program, old + [("rang", 0), ("ended", "new")], 4, "other", 1)

    def test_a_gate_is_settled_once(self):
        program = program_of(self.ROWS)
        for start in ([("begin", "go"), ("set",), ("marked", "g"), ("set",)], [("begin", "go"), ("set",), ("asked", "pay")]):
            history = start + [("rang", 0), ("marked", "g"), ("ended", "new")]
            self.assert_breaks(program, history, len(start) + 1, "other", 1)

    def test_a_mark_of_another_gate(self):
        program = program_of([("gate", "g", [("timer", "t")], []), ("gate", "h", [("timer", "u")], []), ("take", "stop", "x")])
        run = self.assert_reads(program, [("begin", "go"), ("marked", "h"), ("set",)])
        self.assertEqual(run.standing()[5], (("g", False), ("h", True)))
        self.assert_breaks(program, [("begin", "go"), ("marked", "h"), ("set",), ("marked", "g")], 3, "fewer", 0)
        run = self.assert_reads(program, [("begin", "go"), ("marked", "g"), ("set",)])
        self.assertEqual(run.standing()[5], (("g", True), ("h", False)))
        self.assert_breaks(program, [("begin", "go"), ("set",), ("marked", "g"), ("set",)], 1, "fewer", 0)

    def test_the_mark_has_to_stand_next(self):
        program = program_of([("gate", "g", [("timer", "t")], [("timer", "t")]), ("await", "t", "x")])
        self.assert_reads(program, [("begin", "go"), ("marked", "g"), ("set",)])
        self.assert_reads(program, [("begin", "go"), ("set",)])
        self.assert_breaks(program, [("begin", "go"), ("set",), ("marked", "g")], 2, "fewer", 0)
        # The mark of the next turn does not count.
        history = [("begin", "go"), ("set",), ("signal", "stop", "now"), ("marked", "g")]
        self.assert_breaks(program, history, 3, "fewer", 1)

    def test_old_at_the_end_of_a_turn(self):
        program = program_of([("gate", "g", [("timer", "t")], []), ("take", "stop", "x"), ("gate", "g", [], [("end", "x")])])
        self.assert_reads(program, [("begin", "go")])
        self.assert_reads(program, [("begin", "go"), ("signal", "stop", "now"), ("ended", "now")], ("over", "now"))

    def test_a_gate_that_reading_does_not_come_to_is_live_behind_it(self):
        program = program_of([("take", "stop", "x"), ("gate", "g", [("put", "x", "new")], [("put", "x", "old")]), ("end", "x")])
        run = resume(program, [("begin", "go")])
        self.assertEqual(run.tell(("signal", "stop", "now")), [("marked", "g"), ("ended", "new")])

    def test_settled_gates_hold_for_live_turns(self):
        program = program_of(self.ROWS)
        old = resume(program, [("begin", "go"), ("set",), ("asked", "pay")])
        self.assertEqual(old.outer(), [("answer", 1, "no"), ("answer", 1, "yes"), ("rang", 0), ("signal", "stop", "later"),
                                       ("signal", "stop", "now")])
        self.assertEqual(old.tell(("rang", 0)), [("ended", "old")])
        new = resume(program, [("begin", "go"), ("set",), ("marked", "g"), ("set",)])
        self.assertEqual(new.tell(("rang", 0)), [("ended", "new")])
        self.assertEqual(new.history(), [("begin", "go"), ("set",), ("marked", "g"), ("set",), ("rang", 0), ("ended", "new")])

    def test_past_rows_with_and_without_a_mark(self):
        rows = [("past", "g", [("timer", "t")]), ("await", "t", "x"), ("gate", "g", [("put", "x", "new")], [("put", "x", "old")])]
        program = program_of(rows + [("end", "x")])
        for start in ([("begin", "go"), ("marked", "g"), ("set",)], [("begin", "go"), ("set",)]):
            run = self.assert_reads(program, start)
            self.assertEqual(run.standing()[5], (("g", True),))
            self.assertIs(run.standing()[5][0][1], True)
            self.assertEqual(run.tell(("rang", 0)), [("ended", "new")])
            self.assert_breaks(program, start + [("rang", 0), ("marked", "g"), ("ended", "new")], len(start) + 1, "other", 1)
        self.assert_breaks(program, [("begin", "go"), ("marked", "h"), ("set",)], 1, "other", 0)
        self.assert_breaks(program, [("begin", "go"), ("marked", "g"), ("marked", "g"), ("set",)], 2, "other", 0)

    def test_a_past_row_at_the_end_of_a_turn(self):
        program = program_of([("past", "g", []), ("take", "stop", "x")])
        for history in ([("begin", "go")], [("begin", "go"), ("marked", "g")]):
            self.assertEqual(self.assert_reads(program, history).standing()[5], (("g", True),))

    def test_a_past_row_behind_a_gate_that_was_settled_as_old(self):
        program = program_of([("gate", "g", [], []), ("past", "g", [("timer", "t")]), ("await", "t", "x")])
        run = self.assert_reads(program, [("begin", "go"), ("set",)])
        self.assertEqual(run.standing()[5], (("g", False),))
        self.assert_breaks(program, [("begin", "go"), ("set",), ("marked", "g")], 2, "fewer", 0)

    def test_new_rows_where_old_histories_have_none(self):
        old = program_of([("timer", "t"), ("await", "t", "x"), ("timer", "u"), ("await", "u", "x")])
        new = program_of([("timer", "t"), ("await", "t", "x"), ("gate", "g", [("ask", "pay", "u")], [("timer", "u")]),
                          ("await", "u", "x")])
        run = Run(old, "go")
        self.assert_reads(new, run.history())
        run.tell(("rang", 0))
        self.assert_reads(new, run.history())
        fresh = resume(new, run.history()[:2])
        self.assertEqual(fresh.tell(("rang", 0)), [("marked", "g"), ("asked", "pay")])
        self.assert_breaks(old, fresh.history(), 3, "other", 1)


class ResumeTest(ReadingTest):
    ROWS = [("timer", "t"), ("drop", "t"), ("loop", [("timer", "a"), ("timer", "b"), ("await", "b", "x"), ("drop", "a")])]

    def test_numbers_go_on_as_the_history_has_them(self):
        program = program_of(self.ROWS, signals={})
        run = Run(program, "go")
        run.tell(("rang", 2))
        again = resume(program, run.history())
        self.assertEqual(again.outer(), [("rang", 3), ("rang", 4)])
        self.assertEqual(again.tell(("rang", 4)), [("dropped", 3), ("set",), ("set",)])
        self.assertEqual(again.outer(), [("rang", 5), ("rang", 6)])
        self.assertEqual(run.outer(), [("rang", 3), ("rang", 4)])

    def test_the_list_that_was_passed_stays_as_it_was(self):
        program = program_of(self.ROWS)
        history = Run(program, "go").history()
        before = list(history)
        run = resume(program, history)
        run.tell(("rang", 1))
        self.assertEqual(history, before)
        history.append(("junk",))
        self.assertNotIn(("junk",), run.history())
        self.assertIsInstance(run, Run)
        self.assertEqual(run.fork().history(), run.history())

    def test_over(self):
        program = program_of([("end", "in")])
        run = resume(program, [("begin", "go"), ("ended", "go")])
        self.assertIs(run.over, True)
        self.assertEqual(run.outer(), [])
        self.assertEqual(run.standing(), ("over", "go"))
        anew = program_of([("anew", "in")])
        self.assertEqual(read(anew, [("begin", "go"), ("anew", "go")]), ("reads", ("anew", "go")))
        self.assertIs(resume(program_of(self.ROWS), [("begin", "go"), ("set",), ("dropped", 0), ("set",), ("set",)]).over, False)

    def test_what_falls_live_behind_it(self):
        run = resume(program_of([("timer", "t"), ("await", "t", "x"), ("await", "t", "x")]), [("begin", "go"), ("set",)])
        self.assert_raises(Falls, {"word": "free", "path": (2,)}, run.tell, ("rang", 0))

    def test_an_order_of_done_labels_is_kept(self):
        rows = [("timer", "a"), ("timer", "b"), ("take", "stop", "x"), ("first", ("a", "b"), "y"), ("end", "y")]
        for numbers, word in (((0, 1), "a"), ((1, 0), "b")):
            history = [("begin", "go"), ("set",), ("set",)] + [("rang", number) for number in numbers]
            self.assertEqual(resume(program_of(rows), history).tell(("signal", "stop", "now")), [("ended", word)])

    def test_good_turns(self):
        program = program_of([("timer", "t"), ("await", "t", "x"), ("timer", "t"), ("await", "t", "x")])
        history = [("begin", "go"), ("set",), ("rang", 0), ("set",), ("rang", 1), ("ended", "done")]
        self.assertEqual([good_turns(program, history[:many]) for many in (1, 2, 3, 4, 5, 6)], [0, 1, 1, 2, 2, 3])
        self.assertEqual(good_turns(program, history[:4] + [("rang", 1), ("ended", "rang")]), 2)

    def test_first_turns_of_what_is_read_are_read(self):
        program = program_of(self.ROWS)
        run = Run(program, "go")
        for number in (2, 4, 6):
            run.tell(("rang", number))
        turns = cut(run.history())
        for many in range(1, len(turns) + 1):
            self.assert_reads(program, sum(turns[:many], []))

    def test_wrong_programs_come_ahead_of_wrong_histories(self):
        for call in (read, good_turns, resume):
            for value in all_odd_values():
                if not isinstance(value, Program):
                    self.assert_raises(InvalidArgument, {"part": "program"}, call, value, None)
                    self.assert_raises(InvalidArgument, {"part": "program"}, call, value, [("begin", "go")])
            self.assert_raises(InvalidHistory, {"at": -1}, call, Program([]), None)

    def test_a_history_is_checked_whole_before_it_is_read(self):
        self.assert_invalid(3, [("begin", "other"), ("set",), ("set",), ("rang", 7)])

    def test_arguments_by_name(self):
        history = [("begin", "go"), ("ended", "done")]
        self.assertEqual((check(history=history), cut(history=history), aged(history=history)), (1, [history], [history]))
        self.assertEqual(numbered(turns=[history]), history)
        self.assertEqual(read(program=Program([]), history=history), ("reads", ("over", "done")))
        self.assertEqual(good_turns(program=Program([]), history=history), 1)
        self.assertTrue(resume(program=Program([]), history=history).over)


class SizeTest(ReadingTest):
    def test_twenty_thousand_tokens(self):
        program = Program([("loop", [("timer", "t"), ("await", "t", "x")])])
        history = [("begin", "go"), ("set",)]
        for number in range(9999):
            history += [("rang", number), ("set",)]
        self.assertEqual(len(history), 20000)
        self.assertEqual(check(history), 10000)
        self.assertEqual(aged(history)[1:], [[("rang", 0), ("set",)]] * 9999)
        self.assertEqual(numbered(aged(history)), history)
        self.assertEqual(read(program, history)[0], "reads")
        self.assertEqual(good_turns(program, history), 10000)
        self.assertEqual(resume(program, history).outer(), [("rang", 9999)])
        self.assert_breaks(program, history[:-1], 19999, "more", 9999)

    def test_twenty_thousand_tokens_in_one_turn(self):
        history = [("begin", "go")] + [("set",)] * 10000 + [("dropped", number) for number in reversed(range(9999))]
        self.assertEqual(check(history), 1)
        self.assertEqual(aged(history), [history])
        self.assertEqual(numbered([history]), history)
        self.assert_breaks(Program([("timer", "t"), ("take", "s", "x")], signals={"s": (1, ("a",))}), history, 2, "fewer", 0)

    def test_ten_thousand_open_things(self):
        history = [("begin", "go")] + [("set",)] * 9999 + [("rang", number) for number in range(9999)] + [("ended", "x")]
        self.assertEqual(len(history), 20000)
        self.assertEqual(aged(history)[1:4], [[("rang", 0)]] * 3)
        self.assertEqual(numbered(aged(history)), history)
        backward = history[:10000] + [("rang", number) for number in reversed(range(9999))]
        self.assertEqual(aged(backward)[1:], [[token] for token in backward[10000:]])


if __name__ == "__main__":
    unittest.main()
