"""Runs, [2.1] to [2.14], and what the general rules say of them."""

import unittest

from openruns.errors import Falls, InvalidArgument, InvalidNote
from openruns.programs import Program
from openruns.runs import Run
from tests.helpers import Raises, all_odd_values

ASKS = {"pay": ("yes", "no"), "tell": ("ok",)}
SIGNALS = {"stop": (2, ("now", "later"))}


def begin(rows, word="go", notes=(), **more):
    return Run(Program(rows, asks=ASKS, signals=SIGNALS, **more), word, notes)


def slots(run):
    return dict(run.standing()[2])


class RunTest(Raises, unittest.TestCase):
    def assert_falls(self, word, path, call, *args):
        self.assert_raises(Falls, {"word": word, "path": path}, call, *args)

    def assert_turns(self, run, *turns):
        """Each turn is a token and the list of its commands."""
        for token, commands in turns:
            self.assertEqual(run.tell(token), commands)


class BeginTest(RunTest):
    def test_history_of_the_begin_turn(self):
        run = begin([("timer", "t"), ("ask", "pay", "a"), ("await", "a", "x")])
        self.assertEqual(run.history(), [("begin", "go"), ("set",), ("asked", "pay")])
        self.assertFalse(run.over)

    def test_slots_boxes_labels_gates_at_the_beginning(self):
        run = begin([("take", "stop", "x"), ("if", "y", "a", [("end", "z")], [])], "b", inputs=("a", "b"))
        expected = ("at", ((0,),), (("in", "b"), ("x", "none"), ("y", "none"), ("z", "none")), (), (("stop", ()),), ())
        self.assertEqual(run.standing(), expected)

    def test_each_input_may_begin_and_is_in_its_slot(self):
        for word in ("c", "a", "b"):
            self.assertEqual(begin([("end", "in")], word, inputs=("c", "a", "b")).standing(), ("over", word))

    def test_a_program_without_rows_is_over_at_once(self):
        run = begin([])
        self.assertEqual(run.history(), [("begin", "go"), ("ended", "done")])
        self.assertEqual(run.standing(), ("over", "done"))
        self.assertIs(run.over, True)
        self.assertEqual(run.outer(), [])

    def test_wrong_programs(self):
        for value in all_odd_values():
            if not isinstance(value, Program):
                self.assert_raises(InvalidArgument, {"part": "program"}, Run, value, None, None)

    def test_wrong_words(self):
        program = Program([], inputs=("go", "b"))
        for value in all_odd_values() + ["none", "bb", "Go", ("go",), ("go", "b")]:
            if value != "go":
                with self.subTest(value=repr(value)[:60]):
                    self.assert_raises(InvalidArgument, {"part": "word"}, Run, program, value, None)

    def test_wrong_notes(self):
        program = Program([("note", "x", ("a",))])
        for value in all_odd_values() + [("a", "A"), ["a", 1], ["a", None], "a", {"a": "a"}, ("a", ("a",)), [b"a"], [""]]:
            if value not in ((), [], ("a",), ["a"]):
                with self.subTest(value=repr(value)[:60]):
                    self.assert_raises(InvalidArgument, {"part": "notes"}, Run, program, "go", value)

    def test_arguments_by_name(self):
        run = Run(program=Program([("note", "x", ("a",))]), word="go", notes=["a"])
        self.assertEqual(run.history(), [("begin", "go"), ("noted", "a"), ("ended", "done")])

    def test_a_begin_turn_that_falls(self):
        self.assert_falls("free", (0,), begin, [("await", "a", "x")])
        self.assert_raises(InvalidNote, {"at": 0}, begin, [("note", "x", ("a",))])

    def test_a_run_keeps_its_program_whatever_becomes_of_the_arguments(self):
        notes = ["a"]
        run = begin([("note", "x", ("a", "b")), ("timer", "t"), ("await", "t", "y"), ("end", "x")], "go", notes)
        notes[0] = "b"
        self.assert_turns(run, (("rang", 0), [("ended", "a")]))


class ThingsTest(RunTest):
    def test_asks_and_timers_are_numbered_together(self):
        run = begin([("ask", "pay", "a"), ("timer", "b"), ("ask", "tell", "c"), ("first", ("a", "b", "c"), "x")])
        self.assertEqual(run.history(), [("begin", "go"), ("asked", "pay"), ("set",), ("asked", "tell")])
        expected = [("answer", 0, "no"), ("answer", 0, "yes"), ("answer", 2, "ok"), ("rang", 1)]
        expected += [("signal", "stop", "later"), ("signal", "stop", "now")]
        self.assertEqual(run.outer(), expected)

    def test_numbers_go_on_over_turns_and_branches(self):
        rows = [("loop", [("both", ([("timer", "a"), ("await", "a", "x")], [("timer", "b"), ("await", "b", "x")]))])]
        run = begin(rows)
        self.assertEqual(run.history(), [("begin", "go"), ("set",), ("set",)])
        self.assert_turns(run, (("rang", 1), []), (("rang", 0), [("set",), ("set",)]))
        self.assertEqual(run.outer()[:2], [("rang", 2), ("rang", 3)])

    def test_many_numbers_ascend_as_numbers(self):
        run = begin([("loop", [("timer", "a"), ("timer", "b"), ("await", "a", "x"), ("await", "b", "x")])])
        for k in range(5):
            self.assert_turns(run, (("rang", 2 * k), []), (("rang", 2 * k + 1), [("set",), ("set",)]))
        self.assertEqual(run.outer()[:1], [("rang", 10)])
        run = begin([("timer", "a"), ("drop", "a")] * 9 + [("timer", "a"), ("timer", "b"), ("await", "a", "x")])
        self.assertEqual(run.outer()[:2], [("rang", 9), ("rang", 10)])

    def test_answered_rung_and_dropped_things_are_not_open(self):
        run = begin([("ask", "pay", "a"), ("timer", "b"), ("timer", "c"), ("drop", "c"), ("take", "stop", "x")])
        self.assertEqual([token for token in run.outer() if token[0] != "signal"],
                         [("answer", 0, "no"), ("answer", 0, "yes"), ("rang", 1)])
        run.tell(("answer", 0, "yes"))
        self.assertEqual([token for token in run.outer() if token[0] != "signal"], [("rang", 1)])
        run.tell(("rang", 1))
        self.assertEqual([token for token in run.outer() if token[0] != "signal"], [])


class AskTimerTest(RunTest):
    def test_busy_with_an_open_thing(self):
        self.assert_falls("busy", (1,), begin, [("timer", "a"), ("timer", "a")])
        self.assert_falls("busy", (1,), begin, [("ask", "pay", "a"), ("timer", "a")])
        self.assert_falls("busy", (1, 0, 0), begin, [("timer", "a"), ("part", [("ask", "pay", "a")])])

    def test_busy_with_a_done_label(self):
        rows = [("timer", "a"), ("timer", "b"), ("await", "b", "x"), ("ask", "pay", "a")]
        run = begin(rows)
        run.tell(("rang", 0))
        self.assert_falls("busy", (3,), run.tell, ("rang", 1))

    def test_labels_of_other_names_are_no_matter(self):
        run = begin([("timer", "a"), ("timer", "b"), ("await", "a", "x")])
        self.assertEqual(run.standing()[3], (("a", "timer", 0), ("b", "timer", 1)))

    def test_a_label_is_used_again(self):
        run = begin([("timer", "a"), ("await", "a", "x"), ("ask", "pay", "a"), ("await", "a", "x"), ("end", "x")])
        self.assert_turns(run, (("rang", 0), [("asked", "pay")]), (("answer", 1, "no"), [("ended", "no")]))


class AwaitTest(RunTest):
    def test_free(self):
        self.assert_falls("free", (0,), begin, [("await", "a", "x")])
        self.assert_falls("free", (2,), begin, [("timer", "a"), ("drop", "a"), ("await", "a", "x")])
        run = begin([("timer", "a"), ("await", "a", "x"), ("await", "a", "x")])
        self.assert_falls("free", (2,), run.tell, ("rang", 0))

    def test_waits_then_goes_on_and_frees_the_label(self):
        run = begin([("ask", "pay", "a"), ("await", "a", "x"), ("take", "stop", "y")])
        self.assertEqual(run.standing()[1], ((1,),))
        self.assert_turns(run, (("answer", 0, "no"), []))
        expected = ("at", ((2,),), (("in", "go"), ("x", "no"), ("y", "none")), (), (("stop", ()),), ())
        self.assertEqual(run.standing(), expected)

    def test_goes_on_at_once_if_the_label_is_done(self):
        rows = [("timer", "a"), ("timer", "b"), ("await", "b", "x"), ("await", "a", "y"), ("end", "y")]
        run = begin(rows)
        self.assert_turns(run, (("rang", 0), []), (("rang", 1), [("ended", "rang")]))

    def test_a_branch_that_waits_does_not_fall_when_another_frees_the_label(self):
        one = [("await", "a", "x")]
        two = [("await", "a", "y")]
        run = begin([("timer", "a"), ("both", (one, two, [("take", "stop", "z"), ("drop", "a"), ("timer", "a")]))])
        self.assert_turns(run, (("rang", 0), []))
        self.assertEqual(run.standing()[1], ((1, 1, 0), (1, 2, 0)))
        self.assertEqual((slots(run)["x"], slots(run)["y"]), ("rang", "none"))
        self.assertEqual(run.standing()[3], ())
        self.assert_turns(run, (("signal", "stop", "now"), [("set",)]), (("rang", 1), [("ended", "done")]))

    def test_a_drop_by_another_branch_leaves_the_waiting_one_waiting(self):
        rows = [("timer", "a"), ("both", ([("await", "a", "x")], [("take", "stop", "y"), ("drop", "a")]))]
        run = begin(rows)
        self.assert_turns(run, (("signal", "stop", "now"), [("dropped", 0)]))
        self.assertEqual(run.standing()[1], ((1, 0, 0),))
        self.assertFalse(run.over)


class FirstTest(RunTest):
    def test_free_if_one_label_is_free(self):
        self.assert_falls("free", (0,), begin, [("first", ("a",), "x")])
        self.assert_falls("free", (1,), begin, [("timer", "a"), ("first", ("a", "b"), "x")])
        self.assert_falls("free", (1,), begin, [("timer", "b"), ("first", ("a", "b"), "x")])

    def test_free_comes_before_a_done_label(self):
        run = begin([("timer", "a"), ("timer", "b"), ("await", "b", "x"), ("first", ("a", "b"), "x")])
        run.tell(("rang", 0))
        self.assert_falls("free", (3,), run.tell, ("rang", 1))

    def test_gets_the_label_and_changes_no_label(self):
        run = begin([("timer", "a"), ("ask", "pay", "b"), ("first", ("a", "b"), "x"), ("take", "stop", "y")])
        self.assert_turns(run, (("answer", 1, "yes"), []))
        self.assertEqual(slots(run)["x"], "b")
        self.assertEqual(run.standing()[3], (("a", "timer", 0), ("b", "done", "yes", 0)))

    def test_gets_the_label_that_became_done_earliest(self):
        rows = [("timer", "a"), ("timer", "b"), ("timer", "c"), ("take", "stop", "y"), ("first", ("a", "b", "c"), "x"),
                ("end", "x")]
        run = begin(rows)
        self.assert_turns(run, (("rang", 2), []), (("rang", 0), []), (("rang", 1), []))
        self.assertEqual(run.fork().tell(("signal", "stop", "now")), [("ended", "c")])
        run = begin([row if row[0] != "first" else ("first", ("b", "a"), "x") for row in rows])
        self.assert_turns(run, (("rang", 2), []), (("rang", 0), []), (("rang", 1), []))
        self.assert_turns(run, (("signal", "stop", "now"), [("ended", "a")]))

    def test_the_order_is_of_becoming_done_not_of_starting(self):
        rows = [("timer", "a"), ("timer", "b"), ("take", "stop", "y"), ("drop", "a"), ("timer", "a"),
                ("take", "stop", "y"), ("first", ("a", "b"), "x"), ("end", "x")]
        run = begin(rows)
        self.assert_turns(run, (("rang", 0), []), (("rang", 1), []), (("signal", "stop", "now"), [("set",)]))
        self.assertEqual(run.standing()[3], (("a", "timer", 0), ("b", "done", "rang", 0)))
        self.assert_turns(run, (("rang", 2), []), (("signal", "stop", "now"), [("ended", "b")]))

    def test_a_branch_that_waits_does_not_fall(self):
        rows = [("timer", "a"), ("timer", "b"),
                ("both", ([("first", ("a", "b"), "x")], [("take", "stop", "y"), ("drop", "a")])), ("end", "x")]
        run = begin(rows)
        self.assert_turns(run, (("signal", "stop", "now"), [("dropped", 0)]))
        self.assertEqual(run.standing()[1], ((2, 0, 0),))
        self.assert_turns(run, (("rang", 1), [("ended", "b")]))


class DropTest(RunTest):
    def test_an_open_thing(self):
        run = begin([("timer", "a"), ("ask", "pay", "b"), ("drop", "b"), ("drop", "a"), ("take", "stop", "x")])
        self.assertEqual(run.history()[1:], [("set",), ("asked", "pay"), ("dropped", 1), ("dropped", 0)])
        self.assertEqual(run.standing()[3], ())

    def test_a_done_label(self):
        run = begin([("timer", "a"), ("take", "stop", "x"), ("drop", "a"), ("take", "stop", "x")])
        self.assert_turns(run, (("rang", 0), []))
        self.assertEqual(run.standing()[3], (("a", "done", "rang", 0),))
        self.assert_turns(run, (("signal", "stop", "now"), []))
        self.assertEqual(run.standing()[3], ())

    def test_a_free_label(self):
        self.assertEqual(begin([("drop", "a"), ("drop", "a")]).history(), [("begin", "go"), ("ended", "done")])


class TakeTest(RunTest):
    def test_the_oldest_word_leaves_the_box(self):
        rows = [("timer", "t"), ("await", "t", "x"), ("take", "stop", "x"), ("timer", "t"), ("await", "t", "y"),
                ("take", "stop", "y"), ("take", "stop", "z")]
        run = begin(rows)
        self.assert_turns(run, (("signal", "stop", "later"), []), (("signal", "stop", "now"), []))
        self.assertEqual(run.standing()[4], (("stop", ("later", "now")),))
        self.assert_turns(run, (("rang", 0), [("set",)]))
        self.assertEqual((slots(run)["x"], run.standing()[4]), ("later", (("stop", ("now",)),)))
        self.assert_turns(run, (("rang", 1), []))
        self.assertEqual((slots(run)["y"], run.standing()[4]), ("now", (("stop", ()),)))
        self.assertEqual(run.standing()[1], ((6,),))

    def test_room(self):
        for room in (1, 2, 3):
            program = Program([("timer", "t"), ("await", "t", "x")], signals={"stop": (room, ("now",))})
            run = Run(program, "go")
            for _ in range(room):
                self.assertIn(("signal", "stop", "now"), run.outer())
                self.assertEqual(run(("signal", "stop", "now")), [])
            self.assertEqual(run.outer(), [("rang", 0)])
            self.assert_raises(InvalidArgument, {"part": "token"}, run.tell, ("signal", "stop", "now"))

    def test_boxes_are_apart(self):
        signals = {"b": (1, ("u",)), "a": (1, ("u", "t"))}
        run = Run(Program([("take", "b", "x"), ("end", "x")], signals=signals), "go")
        self.assertEqual(run.outer(), [("signal", "a", "t"), ("signal", "a", "u"), ("signal", "b", "u")])
        self.assert_turns(run, (("signal", "a", "t"), []))
        self.assertEqual(run.standing()[4], (("a", ("t",)), ("b", ())))
        self.assert_turns(run, (("signal", "b", "u"), [("ended", "u")]))

    def test_two_branches_at_one_box(self):
        run = begin([("both", ([("take", "stop", "x")], [("take", "stop", "y")]))])
        self.assert_turns(run, (("signal", "stop", "now"), []))
        self.assertEqual((run.standing()[1], slots(run)["x"]), (((0, 1, 0),), "now"))
        self.assert_turns(run, (("signal", "stop", "later"), [("ended", "done")]))


class NoteTest(RunTest):
    ROWS = [("note", "x", ("a", "b")), ("note", "y", ("b", "c")), ("note", "x", ("a",)), ("end", "y")]

    def test_three_notes(self):
        for notes in (("b", "c", "a"), ["b", "c", "a"], ["b", "c", "a", "zzz"], ("b", "c", "a", "a", "a")):
            run = begin(self.ROWS, "go", notes)
            self.assertEqual(run.history()[1:], [("noted", "b"), ("noted", "c"), ("noted", "a"), ("ended", "c")])

    def test_missing_and_wrong_notes(self):
        for notes, at in [((), 0), (("c", "b", "a"), 0), (("a",), 1), (["a", "a", "a"], 1), (("a", "b"), 2),
                          (("a", "b", "b"), 2)]:
            self.assert_raises(InvalidNote, {"at": at}, begin, self.ROWS, "go", notes)

    def test_a_fourth_note_falls_with_and_without_a_further_note(self):
        rows = self.ROWS[:3] + [("part", [("note", "x", ("a",))])]
        for notes in (("a", "b", "a"), ("a", "b", "a", "a"), ("a", "b", "a", "wrong")):
            self.assert_falls("notes", (3, 0, 0), begin, rows, "go", notes)
        self.assert_raises(InvalidNote, {"at": 2}, begin, rows, "go", ("a", "b"))

    def test_a_new_turn_has_three_notes_again(self):
        run = begin(self.ROWS[:3] + [("timer", "t"), ("await", "t", "z")] + self.ROWS[:3], "go", ("a", "b", "a"))
        self.assertEqual(run.tell(("rang", 0), ("b", "c", "a")),
                         [("noted", "b"), ("noted", "c"), ("noted", "a"), ("ended", "done")])

    def test_notes_of_branches_count_together(self):
        rows = [("both", ([("note", "x", ("a",))] * 2, [("note", "x", ("b",))] * 2))]
        self.assert_falls("notes", (0, 1, 1), begin, rows, "go", ("a", "a", "b"))

    def test_what_comes_first_is_raised(self):
        self.assert_raises(InvalidNote, {"at": 0}, begin, [("note", "x", ("a",)), ("await", "a", "x")])
        self.assert_falls("free", (0,), begin, [("await", "a", "x"), ("note", "x", ("a",))])

    def test_notes_that_no_row_takes(self):
        self.assertEqual(begin([("end", "in")], "go", ("a", "b")).history(), [("begin", "go"), ("ended", "go")])


class ChoiceTest(RunTest):
    def test_put_and_if(self):
        rows = [("put", "x", "a"), ("if", "x", "a", [("put", "y", "one")], [("put", "y", "two")]),
                ("if", "x", "b", [("put", "z", "one")], [("put", "z", "two")]), ("take", "stop", "w")]
        self.assertEqual({name: slots(begin(rows))[name] for name in "xyz"}, {"x": "a", "y": "one", "z": "two"})

    def test_if_by_the_input_and_by_none(self):
        rows = [("if", "in", "go", [], [("end", "x")]), ("if", "x", "none", [("end", "in")], [])]
        self.assertEqual(begin(rows).standing(), ("over", "go"))

    def test_empty_lists(self):
        rows = [("if", "in", "go", [], [("end", "x")]), ("part", []), ("past", "g", []), ("gate", "h", [], []),
                ("both", ([], [])), ("end", "in")]
        self.assertEqual(begin(rows).history(), [("begin", "go"), ("marked", "h"), ("ended", "go")])

    def test_loop_and_leave(self):
        rows = [("loop", [("take", "stop", "x"), ("if", "x", "now", [("part", [("leave",)])], []), ("timer", "t"),
                          ("drop", "t")]), ("end", "x")]
        run = begin(rows)
        self.assert_turns(run, (("signal", "stop", "later"), [("set",), ("dropped", 0)]),
                          (("signal", "stop", "later"), [("set",), ("dropped", 1)]),
                          (("signal", "stop", "now"), [("ended", "now")]))

    def test_leave_leaves_the_innermost_loop(self):
        rows = [("loop", [("loop", [("leave",), ("end", "in")]), ("put", "x", "out"), ("leave",)]), ("end", "x")]
        self.assertEqual(begin(rows).standing(), ("over", "out"))

    def test_leave_in_a_loop_of_a_branch(self):
        rows = [("loop", [("both", ([("loop", [("leave",)]), ("timer", "a")], [("loop", [("part", [("leave",)])])])),
                          ("leave",)])]
        self.assertEqual(begin(rows).history(), [("begin", "go"), ("set",), ("ended", "done")])

    def test_part(self):
        self.assertEqual(begin([("part", [("part", [("timer", "a")]), ("timer", "b")]), ("drop", "a")]).history(),
                         [("begin", "go"), ("set",), ("set",), ("dropped", 0), ("ended", "done")])


class EndTest(RunTest):
    def test_end_and_anew(self):
        for kind, command, standing in [("end", "ended", "over"), ("anew", "anew", "anew")]:
            run = begin([("timer", "t"), ("put", "x", "bye"), (kind, "x"), ("timer", "u")])
            self.assertEqual(run.history(), [("begin", "go"), ("set",), (command, "bye")])
            self.assertEqual(run.standing(), (standing, "bye"))
            self.assertIs(run.over, True)
            self.assertEqual(run.outer(), [])
            for token in [("rang", 0), ("signal", "stop", "now"), ("begin", "go")]:
                self.assert_raises(InvalidArgument, {"part": "token"}, run.tell, token)

    def test_end_of_the_rows(self):
        run = begin([("timer", "t"), ("await", "t", "x")])
        self.assert_turns(run, (("rang", 0), [("ended", "done")]))
        self.assertEqual(run.standing(), ("over", "done"))

    def test_end_within_a_branch_ends_the_whole_run(self):
        rows = [("both", ([("timer", "a"), ("await", "a", "x")], [("part", [("end", "in")])], [("timer", "b")]))]
        self.assertEqual(begin(rows).history(), [("begin", "go"), ("set",), ("ended", "go")])

    def test_slots_that_were_never_written(self):
        self.assertEqual(begin([("end", "x")]).standing(), ("over", "none"))
        self.assertEqual(begin([("anew", "in")]).standing(), ("anew", "go"))


class BothTest(RunTest):
    def test_branches_begin_in_the_order_of_their_lists(self):
        rows = [("both", ([("timer", "a"), ("ask", "pay", "b")], [("ask", "tell", "c")], [("timer", "d")]))]
        run = begin(rows)
        self.assertEqual(run.history()[1:], [("set",), ("asked", "pay"), ("asked", "tell"), ("set",), ("ended", "done")])

    def test_a_branch_goes_on_until_it_waits(self):
        wait = [("timer", "a"), ("await", "a", "x"), ("drop", "u"), ("timer", "c")]
        rows = [("timer", "u"), ("both", (wait, [("timer", "b"), ("drop", "b"), ("take", "stop", "x")]))]
        run = begin(rows)
        self.assertEqual(run.history()[1:], [("set",), ("set",), ("set",), ("dropped", 2)])
        self.assert_turns(run, (("rang", 1), [("dropped", 0), ("set",)]))

    def test_what_a_branch_began_comes_before_its_later_siblings(self):
        inner = ("both", ([("timer", "a")], [("ask", "pay", "b")]))
        rows = [("both", ([inner, ("drop", "a"), ("timer", "d")], [("ask", "tell", "c"), ("drop", "b")]))]
        expected = [("set",), ("asked", "pay"), ("dropped", 0), ("set",), ("asked", "tell"), ("dropped", 1)]
        self.assertEqual(begin(rows).history()[1:], expected + [("ended", "done")])

    def test_one_token_for_several_branches(self):
        one = [("first", ("t",), "x"), ("timer", "a")]
        two = [("both", ([("first", ("t",), "x"), ("ask", "pay", "b")], [("first", ("t",), "x"), ("timer", "c")]))]
        three = [("first", ("t",), "x"), ("ask", "tell", "d")]
        run = begin([("timer", "t"), ("both", (three, two, one))])
        self.assert_turns(run, (("rang", 0), [("asked", "tell"), ("asked", "pay"), ("set",), ("set",), ("ended", "done")]))

    def test_the_branch_behind_the_both_row_waits_for_all(self):
        rows = [("both", ([("timer", "a"), ("await", "a", "x")], [("timer", "b"), ("await", "b", "x")], [])), ("end", "in")]
        run = begin(rows)
        self.assert_turns(run, (("rang", 1), []))
        self.assertEqual(run.standing()[1], ((0, 0, 1),))
        self.assert_turns(run, (("rang", 0), [("ended", "go")]))

    def test_goes_on_behind_an_inner_both_row_before_later_branches(self):
        inner = [("both", ([("first", ("t",), "x")], [("first", ("t",), "x")])), ("timer", "a")]
        run = begin([("timer", "t"), ("both", (inner, [("first", ("t",), "x"), ("ask", "pay", "b")]))])
        self.assert_turns(run, (("rang", 0), [("set",), ("asked", "pay"), ("ended", "done")]))

    def test_both_rows_in_a_loop_begin_again(self):
        side = [("take", "stop", "x")]
        run = begin([("loop", [("both", (side, [])), ("timer", "t"), ("drop", "t")])])
        self.assert_turns(run, (("signal", "stop", "now"), [("set",), ("dropped", 0)]),
                          (("signal", "stop", "now"), [("set",), ("dropped", 1)]))
        self.assertEqual(run.standing()[1], ((0, 0, 0, 0, 0),))


def rows_done(many):
    """Rows of which exactly as many are done in a turn: 197 by four passes of a loop, and the others."""
    count = [("if", "x", "d", [("leave",)], []), ("if", "x", "c", [("put", "x", "d")], []),
             ("if", "x", "b", [("put", "x", "c")], []), ("if", "x", "none", [("put", "x", "b")], [])]
    # Each of the first three passes does 1 + 44 + 4 + 1 rows, the last one 1 + 44 + 2.
    return [("loop", [("put", "y", "a")] * 44 + count)] + [("put", "y", "a")] * (many - 197)


class CountingTest(RunTest):
    def test_exactly_two_hundred_rows_and_the_next_one(self):
        self.assertEqual(begin(rows_done(200)).history(), [("begin", "go"), ("ended", "done")])
        self.assertEqual(begin(rows_done(199) + [("end", "x")]).standing(), ("over", "d"))
        self.assert_falls("long", (4,), begin, rows_done(201))
        self.assert_falls("long", (4,), begin, rows_done(200) + [("end", "x")])

    def test_long_is_asked_before_anything_else(self):
        rows = [
            ("await", "free", "x"), ("first", ("free",), "x"), ("note", "x", ("a",)), ("end", "x"), ("loop", []),
            ("both", ([], [])), ("gate", "g", [], []), ("past", "g", []), ("put", "x", "a"), ("take", "stop", "x"),
            ("drop", "a"), ("timer", "t"), ("ask", "pay", "a"), ("part", []), ("if", "x", "a", [], []), ("anew", "x"),
        ]
        for row in rows:
            with self.subTest(row[0]):
                self.assert_falls("long", (4,), begin, rows_done(200) + [row])
        self.assert_falls("free", (3,), begin, rows_done(199) + [("await", "free", "x")])
        self.assert_raises(InvalidNote, {"at": 0}, begin, rows_done(199) + [("note", "x", ("a",))])

    def test_rows_that_hold_rows_count_too(self):
        self.assertTrue(begin(rows_done(199) + [("part", [])]).over)
        for row in [("part", [("end", "x")]), ("loop", [("end", "x")]), ("past", "g", [("end", "x")]),
                    ("gate", "g", [("end", "x")], []), ("if", "x", "d", [("end", "x")], []),
                    ("both", ([("end", "x")], []))]:
            with self.subTest(row[0]):
                self.assert_falls("long", (3, 0, 0), begin, rows_done(199) + [row])
                self.assertEqual(begin(rows_done(198) + [row]).standing(), ("over", "d"))
        self.assert_falls("long", (3, 1, 0), begin, rows_done(199) + [("both", ([], [("end", "x")]))])

    def test_a_loop_row_is_done_at_each_beginning_of_its_rows(self):
        self.assert_falls("long", (0,), begin, [("loop", [])])
        self.assert_falls("long", (0,), begin, [("loop", [("put", "x", "a")])])
        self.assert_falls("long", (1,), begin, [("put", "x", "a"), ("loop", [])])
        self.assert_falls("long", (1, 0, 0), begin, [("put", "x", "a"), ("loop", [("put", "x", "a")])])
        self.assert_falls("long", (0, 0, 1), begin, [("loop", [("put", "x", "a"), ("put", "x", "a")])])
        self.assert_falls("long", (0, 0, 0), begin, [("loop", [("loop", [])])])

    def test_a_leave_row_counts(self):
        # Of the endless loop each pass does four rows, of the inner ones too.
        rows = [("loop", [("loop", [("put", "x", "a"), ("leave",)])])]
        self.assert_falls("long", (0,), begin, rows)
        self.assert_falls("long", (1, 0, 0, 0, 1), begin, [("put", "x", "a")] + rows)

    def test_a_row_at_which_a_branch_waited_is_not_done_again(self):
        for wait in [("await", "t", "z"), ("first", ("t",), "z")]:
            run = begin([("timer", "t"), wait] + rows_done(200))
            self.assert_turns(run, (("rang", 0), [("ended", "done")]))
            run = begin([("timer", "t"), wait] + rows_done(201))
            self.assert_falls("long", (6,), run.tell, ("rang", 0))
        run = begin([("take", "stop", "z")] + rows_done(200))
        self.assert_turns(run, (("signal", "stop", "now"), [("ended", "done")]))
        run = begin([("both", ([("take", "stop", "z")], []))] + rows_done(200))
        self.assert_turns(run, (("signal", "stop", "now"), [("ended", "done")]))

    def test_each_turn_counts_anew(self):
        rows = [("loop", [("put", "x", "none")] + rows_done(197) + [("take", "stop", "z")])]
        run = begin(rows)
        for _ in range(3):
            self.assert_turns(run, (("signal", "stop", "now"), []))

    def test_rows_of_all_branches_count_together(self):
        sides = [("put", "y", "a")]
        rows = rows_done(197)
        self.assertTrue(begin(rows + [("both", (sides, sides))]).over)
        self.assert_falls("long", (1, 2, 0), begin, rows + [("both", (sides, sides, sides))])


class GateTest(RunTest):
    def test_a_gate_is_marked_once_and_shared(self):
        rows = [("gate", "g", [("timer", "a")], [("timer", "b")]), ("part", [("gate", "g", [], [("timer", "c")])]),
                ("gate", "h", [], [("timer", "d")]), ("take", "stop", "x"), ("gate", "g", [("timer", "e")], [])]
        run = begin(rows)
        self.assertEqual(run.history()[1:], [("marked", "g"), ("set",), ("marked", "h")])
        self.assertEqual(run.standing()[5], (("g", True), ("h", True)))
        self.assertIs(run.standing()[5][0][1], True)
        self.assert_turns(run, (("signal", "stop", "now"), [("set",), ("ended", "done")]))

    def test_a_past_row_settles_and_writes_nothing(self):
        rows = [("past", "g", [("timer", "a")]), ("gate", "g", [("ask", "pay", "b")], [("ask", "tell", "b")]),
                ("past", "g", [("timer", "c")]), ("take", "stop", "x")]
        run = begin(rows)
        self.assertEqual(run.history()[1:], [("set",), ("asked", "pay"), ("set",)])
        self.assertEqual(run.standing()[5], (("g", True),))

    def test_a_past_row_behind_its_gate(self):
        rows = [("gate", "g", [], [("end", "in")]), ("past", "g", [("timer", "a")]), ("take", "stop", "x")]
        self.assertEqual(begin(rows).history()[1:], [("marked", "g"), ("set",)])

    def test_gates_that_are_not_come_to_are_not_settled(self):
        rows = [("if", "in", "go", [], [("gate", "g", [], [])]), ("take", "stop", "x"), ("past", "h", [])]
        self.assertEqual(begin(rows).standing()[5], ())

    def test_a_gate_in_a_turn_that_falls_is_not_settled(self):
        rows = [("take", "stop", "x"), ("gate", "g", [], []), ("past", "h", []), ("if", "x", "now", [("await", "a", "y")], []),
                ("take", "stop", "y")]
        run = begin(rows)
        self.assert_falls("free", (3, 0, 0), run.tell, ("signal", "stop", "now"))
        self.assertEqual(run.standing()[5], ())
        self.assert_turns(run, (("signal", "stop", "later"), [("marked", "g")]))
        self.assertEqual(run.standing()[5], (("g", True), ("h", True)))


class FallingTest(RunTest):
    ROWS = [
        ("timer", "t"), ("timer", "d"), ("timer", "e"),
        ("both", ([("take", "stop", "x"), ("drop", "d"), ("ask", "pay", "a"), ("gate", "g", [("put", "y", "b")], []),
                   ("if", "x", "now", [("note", "y", ("a",)), ("ask", "pay", "a")], [("note", "y", ("a",))])],
                  [("await", "t", "z")])),
        ("take", "stop", "x"),
    ]

    def seen(self, run):
        return (run.history(), run.outer(), run.standing(), run.over)

    def test_a_turn_that_falls_or_lacks_a_note_changes_nothing(self):
        run = begin(self.ROWS)
        run.tell(("rang", 2))
        before = self.seen(run)
        self.assert_raises(InvalidNote, {"at": 0}, run.tell, ("signal", "stop", "now"))
        self.assertEqual(self.seen(run), before)
        self.assert_falls("busy", (3, 0, 4, 0, 1), run.tell, ("signal", "stop", "now"), ("a",))
        self.assertEqual(self.seen(run), before)
        self.assert_raises(InvalidNote, {"at": 0}, run.tell, ("signal", "stop", "later"), ("b",))
        self.assert_raises(InvalidArgument, {"part": "token"}, run.tell, ("rang", 2))
        self.assert_raises(InvalidArgument, {"part": "notes"}, run.tell, ("rang", 0), None)
        self.assertEqual(self.seen(run), before)
        told = run.tell(("signal", "stop", "later"), ["a"])
        self.assertEqual(told, [("dropped", 1), ("asked", "pay"), ("marked", "g"), ("noted", "a")])
        self.assertEqual(run.standing()[3], (("a", "asked", 1, "pay"), ("e", "done", "rang", 0), ("t", "timer", 0)))
        self.assertEqual(run.outer()[:2], [("answer", 3, "no"), ("answer", 3, "yes")])

    def test_a_turn_that_falls_leaves_boxes_and_done_labels(self):
        rows = [("timer", "t"), ("timer", "d"), ("await", "t", "z"), ("take", "stop", "x"), ("await", "d", "y"),
                ("note", "w", ("a",)), ("drop", "d")]
        run = begin(rows)
        self.assert_turns(run, (("signal", "stop", "now"), []), (("rang", 1), []))
        before = self.seen(run)
        self.assert_raises(InvalidNote, {"at": 0}, run.tell, ("rang", 0))
        self.assertEqual(self.seen(run), before)
        self.assertEqual(run.standing()[3:5], ((("d", "done", "rang", 0), ("t", "timer", 0)), (("stop", ("now",)),)))
        self.assertEqual(run.tell(("rang", 0), ("a",)), [("noted", "a"), ("ended", "done")])

    def test_the_same_turn_can_be_told_again_with_other_notes(self):
        run = begin([("take", "stop", "x"), ("note", "y", ("a",)), ("end", "y")])
        self.assert_raises(InvalidNote, {"at": 0}, run.tell, ("signal", "stop", "now"))
        self.assertEqual(run.tell(("signal", "stop", "now"), ("a",)), [("noted", "a"), ("ended", "a")])


class StandingTest(RunTest):
    def test_the_example_step_by_step(self):
        rows = [("both", ([("ask", "pay", "a"), ("await", "a", "x")],
                          [("timer", "t"), ("both", ([("take", "stop", "y")], [], [("await", "t", "z")]))])),
                ("gate", "g", [("end", "x")], [("end", "z")])]
        run = Run(Program(rows, asks={"pay": ("no", "yes")}, signals={"stop": (1, ("now",))}), "go")
        self.assertEqual(run.history(), [("begin", "go"), ("asked", "pay"), ("set",)])
        expected = ("at", ((0, 0, 1), (0, 1, 1, 0, 0), (0, 1, 1, 2, 0)),
                    (("in", "go"), ("x", "none"), ("y", "none"), ("z", "none")),
                    (("a", "asked", 0, "pay"), ("t", "timer", 1)), (("stop", ()),), ())
        self.assertEqual(run.standing(), expected)
        self.assert_turns(run, (("rang", 1), []))
        self.assertEqual(run.standing()[1], ((0, 0, 1), (0, 1, 1, 0, 0)))
        self.assert_turns(run, (("answer", 0, "yes"), []))
        self.assertEqual(run.standing()[1], ((0, 1, 1, 0, 0),))
        self.assert_turns(run, (("signal", "stop", "now"), [("marked", "g"), ("ended", "yes")]))
        self.assertEqual(run.standing(), ("over", "yes"))
        self.assertEqual(run.history(), [
            ("begin", "go"), ("asked", "pay"), ("set",), ("rang", 1), ("answer", 0, "yes"), ("signal", "stop", "now"),
            ("marked", "g"), ("ended", "yes"),
        ])

    def test_open_things_by_their_ranks(self):
        rows = [("timer", "c"), ("drop", "c"), ("ask", "pay", "c"), ("timer", "a"), ("ask", "tell", "b"), ("take", "stop", "x")]
        run = begin(rows)
        self.assertEqual(run.standing()[3], (("a", "timer", 1), ("b", "asked", 2, "tell"), ("c", "asked", 0, "pay")))
        run.tell(("rang", 2))
        self.assertEqual(run.standing()[3], (("a", "done", "rang", 0), ("b", "asked", 1, "tell"), ("c", "asked", 0, "pay")))
        run.tell(("answer", 1, "no"))
        self.assertEqual(run.standing()[3], (("a", "done", "rang", 0), ("b", "asked", 0, "tell"), ("c", "done", "no", 1)))

    def test_ranks_of_done_labels_close_up(self):
        rows = [("timer", "a"), ("timer", "b"), ("timer", "c"), ("take", "stop", "x"), ("drop", "b"), ("take", "stop", "x")]
        run = begin(rows)
        self.assert_turns(run, (("rang", 1), []), (("rang", 2), []), (("rang", 0), []))
        self.assertEqual(run.standing()[3], (("a", "done", "rang", 2), ("b", "done", "rang", 0), ("c", "done", "rang", 1)))
        self.assert_turns(run, (("signal", "stop", "now"), []))
        self.assertEqual(run.standing()[3], (("a", "done", "rang", 1), ("c", "done", "rang", 0)))

    def test_a_both_row_is_not_waited_at(self):
        inner = ("both", ([("take", "stop", "x")], [("take", "stop", "x")]))
        run = begin([("both", ([("part", [inner])], [("loop", [inner])]))])
        paths = ((0, 0, 0, 0, 0, 0, 0), (0, 0, 0, 0, 0, 1, 0), (0, 1, 0, 0, 0, 0, 0), (0, 1, 0, 0, 0, 1, 0))
        self.assertEqual(run.standing()[1], paths)

    def test_waits_of_an_inner_both_row_before_a_later_branch(self):
        take = ("take", "stop", "x")
        run = begin([("both", ([("both", ([take], [take]))], [("put", "x", "a"), take]))])
        self.assertEqual(run.standing()[1], ((0, 0, 0, 0, 0), (0, 0, 0, 1, 0), (0, 1, 1)))

    def test_all_is_ascending(self):
        signals = {"d": (1, ("u",)), "c": (1, ("u",))}
        rows = [("past", "h", [("past", "b", [])]), ("timer", "z"), ("timer", "y"), ("put", "m", "u"), ("end", "l")]
        run = Run(Program([("take", "d", "k")] + rows[:4] + [("take", "c", "k")] + rows[4:], signals=signals), "go")
        self.assert_turns(run, (("signal", "d", "u"), [("set",), ("set",)]))
        expected = ("at", ((5,),), (("in", "go"), ("k", "u"), ("l", "none"), ("m", "u")),
                    (("y", "timer", 1), ("z", "timer", 0)), (("c", ()), ("d", ())), (("b", True), ("h", True)))
        self.assertEqual(run.standing(), expected)


class TokenTest(RunTest):
    def test_wrong_tokens(self):
        run = begin([("ask", "pay", "a"), ("ask", "tell", "b"), ("timer", "c"), ("timer", "d"), ("drop", "d"),
                     ("await", "c", "x")])
        wrong = all_odd_values() + [
            ("begin", "go"), ("answer", 0), ("answer", 0, "maybe"), ("answer", 0, "ok"), ("answer", 1, "no"),
            ("answer", 2, "no"), ("answer", 4, "no"), ("answer", -1, "no"), ("answer", False, "no"), ("answer", True, "ok"),
            ("answer", "0", "no"), ("answer", 0, "no", 1), ["answer", 0, "no"], ("rang", 0), ("rang", 3), ("rang", 4),
            ("rang", -2), ("rang", 2, "rang"), ("rang",), ("rang", "2"), ("rang", None), ["rang", 2], ("rang", (2,)),
            ("rang", [2]), ("signal", "stop"), ("signal", "stop", "never"), ("signal", "pay", "now"), ("signal", "stop", 0),
            ("signal", ("stop",), "now"), ("set",), ("asked", "pay"), ("dropped", 0), ("noted", "a"), ("marked", "g"),
            ("ended", "done"), ("anew", "a"), (b"rang", 2), ("rang", b"2"), ("answer", 0, b"no"),
        ]
        before = (run.history(), run.standing(), run.outer())
        for value in wrong:
            with self.subTest(value=repr(value)[:60]):
                self.assert_raises(InvalidArgument, {"part": "token"}, run.tell, value)
                self.assert_raises(InvalidArgument, {"part": "token"}, run, value, None)
        self.assertEqual((run.history(), run.standing(), run.outer()), before)

    def test_integers_and_flags_are_told_apart(self):
        run = begin([("timer", "a"), ("timer", "b"), ("await", "a", "x")])
        for flag in (False, True):
            self.assert_raises(InvalidArgument, {"part": "token"}, run.tell, ("rang", flag))
        self.assertEqual(run.tell(("rang", 1)), [])

    def test_wrong_notes_behind_the_token(self):
        run = begin([("timer", "a"), ("await", "a", "x"), ("note", "x", ("a",))])
        for value in all_odd_values() + ["a", {"a": "a"}, ("a", "A"), ["a", 1]]:
            if value not in ((), [], ("a",), ["a"]):
                with self.subTest(value=repr(value)[:60]):
                    self.assert_raises(InvalidArgument, {"part": "notes"}, run.tell, ("rang", 0), value)
        self.assertEqual(run.tell(token=("rang", 0), notes=["a"]), [("noted", "a"), ("ended", "done")])

    def test_each_outer_token_may_come(self):
        program = Program([("ask", "pay", "a"), ("timer", "b"), ("take", "stop", "x"), ("end", "x")], asks=ASKS, signals=SIGNALS)
        run = Run(program, "go")
        self.assertEqual(run.outer(), sorted(run.outer()))
        for token in run.outer():
            fork = run.fork()
            commands = fork.tell(token)
            self.assertEqual(fork.history(), run.history() + [token] + commands)


class ObjectTest(RunTest):
    def test_calling_the_object_does_the_same_as_tell(self):
        run = begin([("timer", "a"), ("await", "a", "x"), ("note", "x", ("a", "b")), ("end", "x")])
        other = run.fork()
        self.assert_raises(InvalidNote, {"at": 0}, run, ("rang", 0))
        self.assertEqual(run(("rang", 0), ("b",)), [("noted", "b"), ("ended", "b")])
        self.assertEqual(other(token=("rang", 0), notes=["a"]), [("noted", "a"), ("ended", "a")])

    def test_a_fork_is_independent(self):
        run = begin([("ask", "pay", "a"), ("both", ([("await", "a", "x")], [("take", "stop", "y")])), ("end", "x")])
        fork = run.fork()
        self.assertIsInstance(fork, Run)
        self.assertEqual((fork.history(), fork.standing(), fork.outer(), fork.over),
                         (run.history(), run.standing(), run.outer(), run.over))
        self.assert_turns(run, (("answer", 0, "no"), []))
        self.assertEqual(fork.history(), [("begin", "go"), ("asked", "pay")])
        self.assert_turns(fork, (("signal", "stop", "later"), []), (("answer", 0, "yes"), [("ended", "yes")]))
        self.assertEqual(run.history(), [("begin", "go"), ("asked", "pay"), ("answer", 0, "no")])
        self.assertFalse(run.over)
        over = fork.fork()
        self.assertEqual((over.standing(), over.over, over.outer()), (("over", "yes"), True, []))
        self.assert_turns(run, (("signal", "stop", "now"), [("ended", "no")]))

    def test_a_fork_takes_another_road_behind_a_note(self):
        run = begin([("note", "x", ("a", "b")), ("take", "stop", "y"), ("note", "y", ("a",)), ("end", "x")], "go", ("b",))
        self.assertEqual(run.fork().tell(("signal", "stop", "now"), ("a",)), [("noted", "a"), ("ended", "b")])

    def test_over_is_a_property(self):
        self.assertIsInstance(vars(Run)["over"], property)
        run = begin([("timer", "a"), ("await", "a", "x")])
        self.assertIs(run.over, False)
        run.tell(("rang", 0))
        self.assertIs(run.over, True)

    def test_lists_belong_to_the_caller(self):
        run = begin([("timer", "a"), ("await", "a", "x"), ("timer", "b"), ("await", "b", "x")])
        told = run.tell(("rang", 0))
        told.append("more")
        run.history().clear()
        run.outer().clear()
        self.assertEqual(run.history(), [("begin", "go"), ("set",), ("rang", 0), ("set",)])
        self.assertEqual(run.outer()[0], ("rang", 1))

    def test_methods_stand_in_the_class_itself(self):
        for name in ("__init__", "__call__", "outer", "tell", "history", "standing", "fork", "over"):
            self.assertIn(name, vars(Run))


class SizeTest(RunTest):
    def test_a_history_of_twenty_thousand_tokens(self):
        run = begin([("loop", [("timer", "t"), ("await", "t", "x")])])
        for number in range(9999):
            self.assertEqual(run(("rang", number)), [("set",)])
        self.assertEqual(len(run.history()), 20000)
        self.assertEqual(run.fork().standing()[3], (("t", "timer", 0),))

    def test_the_deepest_and_largest_program(self):
        rows = [("take", "stop", "x")]
        for _ in range(4):
            rows = [("both", (rows, []))]
        self.assertEqual(begin(rows).standing()[1], ((0, 0, 0, 0, 0, 0, 0, 0, 0),))
        wide = [("both", ([("take", "stop", "x")] * 18, [("take", "stop", "x")] * 18, [("take", "stop", "x")] * 23))]
        run = begin(wide)
        for _ in range(58):
            self.assertEqual(run(("signal", "stop", "now")), [])
        self.assertEqual(run(("signal", "stop", "now")), [("ended", "done")])


if __name__ == "__main__":
    unittest.main()
