"""Books of standings, [5.1] to [5.9], with the order of histories, [3.6], and what the general rules say of them."""

import copy
import unittest

from openruns.books import Book
from openruns.errors import Falls, InvalidArgument, InvalidNote, LimitExceeded
from openruns.programs import Program
from openruns.reading import cut, read
from openruns.runs import Run
from tests.helpers import Raises, all_odd_values

KINDS = ("write", "read")
ASKS = {"pay": ("yes", "no"), "tell": ("ok",)}

# Waits for the ring of a timer, then for another one; its gate has old rows that get stuck.
GATED = [("timer", "t"), ("await", "t", "x"), ("gate", "g", [("timer", "u"), ("await", "u", "x")], [("loop", [("take", "s", "y")])])]


def program_of(rows, **more):
    return Program(rows, **{"asks": ASKS, **more})


def at(waits, slots, labels=(), boxes=(), gates=()):
    return ("at", waits, tuple(sorted(slots.items())), labels, boxes, gates)


def variants(standing):
    """Values that equal a standing, or nearly do, with integers in place of flags, flags in place of integers, or lists."""
    found = []
    for place, part in enumerate(standing):
        if isinstance(part, tuple):
            found += [standing[:place] + (one,) + standing[place + 1:] for one in variants(part) + [list(part), part + (0,)]]
        elif isinstance(part, bool):
            found += [standing[:place] + (one,) + standing[place + 1:] for one in (int(part), not part)]
        elif isinstance(part, int):
            found += [standing[:place] + (one,) + standing[place + 1:] for one in (bool(part), part + 7, str(part))]
        else:
            found += [standing[:place] + (one,) + standing[place + 1:] for one in (part + "z", part.encode(), (part,), None)]
    return found


class BookTest(Raises, unittest.TestCase):
    def assert_wrong(self, part, call, *args, **named):
        self.assert_raises(InvalidArgument, {"part": part}, call, *args, **named)


class StandingsTest(BookTest):
    def test_in_the_order_of_their_least_histories(self):
        program = program_of([("ask", "pay", "a"), ("timer", "t"), ("first", ("a", "t"), "x"), ("end", "x")], inputs=("b", "a"))
        for kind in KINDS:
            book = Book(program, kind=kind)
            waiting = [at(((2,),), {"in": word, "x": "none"}, (("a", "asked", 0, "pay"), ("t", "timer", 1))) for word in "ab"]
            self.assertEqual(book.standings(), waiting + [("over", "a"), ("over", "t")])
            self.assertEqual(len(book), 4)
            histories = [book.least_history(standing) for standing in book.standings()]
            begin = [("begin", "a"), ("asked", "pay"), ("set",)]
            self.assertEqual(histories, [begin, [("begin", "b")] + begin[1:], begin + [("answer", 0, "no"), ("ended", "a")],
                                         begin + [("rang", 1), ("ended", "t")]])

    def test_fewer_turns_come_first(self):
        """[3.6]: a turn more is greater, whatever the turns are."""
        rows = [("if", "in", "a", [("timer", "t"), ("await", "t", "x"), ("end", "x")], []), ("take", "s", "y"), ("end", "y")]
        book = Book(program_of(rows, inputs=("b", "a"), signals={"s": (1, ("z",))}))
        histories = [book.least_history(standing) for standing in book.standings()]
        self.assertEqual([len(cut(history)) for history in histories], sorted([len(cut(history)) for history in histories]))
        self.assertEqual(histories[:2], [[("begin", "a"), ("set",)], [("begin", "b")]])
        self.assertEqual(book.least_history(("over", "rang")), [("begin", "a"), ("set",), ("rang", 0), ("ended", "rang")])
        self.assertEqual(book.least_history(("over", "z")), [("begin", "b"), ("signal", "s", "z"), ("ended", "z")])

    def test_turns_are_compared_as_lists(self):
        """[3.6]: the turns one by one, so a shorter first turn comes first if it is a beginning of the longer one."""
        rows = [("gate", "g", [], []), ("timer", "t"), ("await", "t", "x"), ("end", "x")]
        book = Book(program_of([("if", "x", "none", rows, [])]), kind="read")
        firsts = [book.least_history(standing) for standing in book.standings()]
        self.assertEqual(firsts[:2], [[("begin", "go"), ("marked", "g"), ("set",)], [("begin", "go"), ("set",)]])
        book = Book(program_of([("past", "g", []), ("note", "x", ("b", "a")), ("take", "s", "y")], signals={"s": (1, ("z",))}),
                    kind="read")
        self.assertEqual(book.least_history(book.standings()[0]), [("begin", "go"), ("marked", "g"), ("noted", "a")])
        book = Book(program_of([("gate", "g", [("put", "x", "b")], []), ("take", "s", "y")], signals={"s": (1, ("z",))}), kind="read")
        self.assertEqual([book.least_history(standing) for standing in book.standings()[:2]],
                         [[("begin", "go")], [("begin", "go"), ("marked", "g")]])

    def test_numbers_are_compared_as_numbers(self):
        rows = [("timer", "a"), ("drop", "a")] * 9 + [("timer", "a"), ("timer", "b"), ("first", ("a", "b"), "x"), ("end", "x")]
        book = Book(program_of(rows))
        self.assertEqual([book.least_history(standing)[-2:] for standing in book.standings()[1:]],
                         [[("rang", 9), ("ended", "a")], [("rang", 10), ("ended", "b")]])

    def test_both_kinds(self):
        program = program_of(GATED, signals={"s": (1, ("z",))})
        writes, reads = Book(program), Book(program, kind="read")
        self.assertLess(len(writes), len(reads))
        self.assertTrue(all(standing in reads for standing in writes.standings()))
        old = [standing for standing in reads.standings() if standing[0] == "at" and standing[5] == (("g", False),)]
        self.assertTrue(old)
        self.assertFalse(any(standing in writes for standing in old))
        self.assertEqual(Book(program, kind="write").standings(), writes.standings())

    def test_no_standings_at_all(self):
        for kind in KINDS:
            book = Book(program_of([("await", "t", "x")]), kind=kind)
            self.assertEqual((book.standings(), len(book), book.stuck(), book.trapped()), ([], 0, [], []))
            self.assertEqual(book.unused_paths(), [(0,)])
            self.assertFalse(("over", "done") in book)
            self.assert_wrong("standing", book.turns_of, ("over", "done"))

    def test_an_end_is_a_standing_and_nothing_goes_on_behind_it(self):
        book = Book(program_of([("if", "in", "a", [("end", "in")], [("anew", "in")])], inputs=("a", "b")))
        self.assertEqual(book.standings(), [("over", "a"), ("anew", "b")])
        self.assertEqual([book.turns_of(standing) for standing in book.standings()], [[], []])

    def test_in_tells_integers_and_flags_apart(self):
        both = [("gate", "g", [("timer", "t"), ("timer", "u")], []), ("both", ([("await", "t", "x")], [("await", "u", "y")]))]
        for rows in (GATED, both):
            for kind in KINDS:
                book = Book(program_of(rows, signals={"s": (1, ("z",))}), kind=kind)
                for standing in book.standings():
                    self.assertIn(standing, book)
                    self.assertIn(copy.deepcopy(standing), book)
                    for value in variants(standing):
                        same = any(repr(value) == repr(other) for other in book.standings())
                        self.assertIs(value in book, same, value)

    def test_in_with_any_value(self):
        book = Book(program_of(GATED, signals={"s": (1, ("z",))}))
        for value in all_odd_values() + [book, list(book.standings()[0]), [book.standings()[0]], (book.standings()[0],)]:
            with self.subTest(value=repr(value)[:60]):
                self.assertIs(value in book, False)

    def test_lists_belong_to_the_caller(self):
        program = program_of(GATED + [("note", "x", ("a",))] * 4, signals={"s": (1, ("z",))})
        for kind in KINDS:
            book = Book(program, kind=kind)
            calls = [book.standings, book.falls, book.stuck, book.trapped, book.unused_paths]
            calls += [lambda: book.turns_of(book.standings()[0]), lambda: book.least_history(book.standings()[1])]
            before = [copy.deepcopy(call()) for call in calls]
            for call in calls:
                told = call()
                for item in told:
                    for part in item if isinstance(item, tuple) else ():
                        if isinstance(part, list):
                            part.append("junk")
                told.append("junk")
            self.assertEqual([call() for call in calls], before)
            self.assertTrue(all(before[:2]))


class TurnsTest(BookTest):
    ROWS = [("ask", "tell", "a"), ("ask", "pay", "b"), ("await", "a", "x"), ("timer", "t"), ("drop", "b"), ("await", "t", "x")]

    def test_turns_by_age_with_the_standing_behind(self):
        book = Book(program_of(self.ROWS))
        first = book.standings()[0]
        middle = at(((5,),), {"in": "go", "x": "ok"}, (("t", "timer", 0),))
        done = at(((2,),), {"in": "go", "x": "none"}, (("a", "asked", 0, "tell"), ("b", "done", "no", 0)))
        turns = book.turns_of(first)
        self.assertEqual(turns[0], ([("answer", 0, "ok"), ("set",), ("dropped", 1)], middle))
        self.assertEqual(turns[1], ([("answer", 1, "no")], done))
        self.assertEqual([turn for turn, _ in turns[2:]], [[("answer", 1, "yes")]])
        # As the history numbers things, this timer is thing 2.
        self.assertEqual(book.least_history(middle)[-2:], [("set",), ("dropped", 1)])
        self.assertEqual(book.turns_of(middle), [([("rang", 0), ("ended", "done")], ("over", "done"))])
        self.assertEqual(book.least_history(("over", "done"))[-2:], [("rang", 2), ("ended", "done")])

    def test_ascending_by_the_turn(self):
        rows = [("take", "s", "x"), ("note", "x", ("b", "a")), ("if", "x", "a", [("note", "y", ("d", "c"))], []), ("end", "x")]
        for kind in KINDS:
            book = Book(program_of(rows, signals={"s": (1, ("q", "p"))}), kind=kind)
            turns = [turn for turn, _ in book.turns_of(book.standings()[0])]
            expected = []
            for word in ("p", "q"):
                start = [("signal", "s", word)]
                expected += [start + [("noted", "a"), ("noted", "c"), ("ended", "a")],
                             start + [("noted", "a"), ("noted", "d"), ("ended", "a")], start + [("noted", "b"), ("ended", "b")]]
            self.assertEqual(turns, expected)

    def test_turns_of_a_reading_with_gates_and_past_rows(self):
        rows = [("take", "s", "x"), ("gate", "g", [("put", "x", "new")], [("put", "x", "old")]), ("past", "h", []), ("end", "x")]
        program = program_of(rows, signals={"s": (1, ("p",))})
        start = at(((0,),), {"in": "go", "x": "none"}, boxes=(("s", ()),))
        self.assertEqual(Book(program).turns_of(start), [([("signal", "s", "p"), ("marked", "g"), ("ended", "new")], ("over", "new"))])
        token = ("signal", "s", "p")
        expected = [([token, ("ended", "old")], ("over", "old")), ([token, ("marked", "g"), ("ended", "new")], ("over", "new")),
                    ([token, ("marked", "g"), ("marked", "h"), ("ended", "new")], ("over", "new")),
                    ([token, ("marked", "h"), ("ended", "old")], ("over", "old"))]
        self.assertEqual(Book(program, kind="read").turns_of(start), expected)

    def test_two_gates_of_one_id_are_settled_together(self):
        gate = ("gate", "g", [("note", "x", ("new",))], [("note", "x", ("old",))])
        book = Book(program_of([("take", "s", "y"), gate, gate, ("end", "x")], signals={"s": (1, ("p",))}), kind="read")
        self.assertEqual([turn[1:] for turn, _ in book.turns_of(book.standings()[0])],
                         [[("marked", "g"), ("noted", "new"), ("noted", "new"), ("ended", "new")],
                          [("noted", "old"), ("noted", "old"), ("ended", "old")]])

    def test_turns_that_fall_are_left_out(self):
        rows = [("take", "s", "x"), ("if", "x", "p", [("await", "t", "y")], []), ("end", "x")]
        book = Book(program_of(rows, signals={"s": (1, ("q", "p"))}))
        self.assertEqual(book.turns_of(book.standings()[0]), [([("signal", "s", "q"), ("ended", "q")], ("over", "q"))])

    def test_different_turns_may_lead_to_one_standing(self):
        book = Book(program_of([("ask", "pay", "a"), ("await", "a", "x"), ("put", "x", "same"), ("end", "x")]))
        self.assertEqual(book.turns_of(book.standings()[0]), [([("answer", 0, word), ("ended", "same")], ("over", "same"))
                                                              for word in ("no", "yes")])
        self.assertEqual(book.least_history(("over", "same"))[-2:], [("answer", 0, "no"), ("ended", "same")])


class StepTest(BookTest):
    ROWS = [("timer", "t"), ("timer", "u"), ("await", "t", "x"), ("note", "x", ("b", "a")), ("take", "s", "y"),
            ("await", "v", "y")]

    def book(self, kind="write"):
        return Book(program_of(self.ROWS, signals={"s": (2, ("p", "q"))}), kind=kind)

    def test_the_standing_behind_a_live_turn(self):
        for kind in KINDS:
            book = self.book(kind)
            first = book.standings()[0]
            behind = book.step(first, ("rang", 0), ["a"])
            self.assertEqual(behind, at(((4,),), {"in": "go", "x": "a", "y": "none"}, (("u", "timer", 0),), (("s", ()),)))
            self.assertIn(behind, book)
            # By age, the other timer is the first one now.
            self.assertEqual(book.step(behind, ("rang", 0))[3], (("u", "done", "rang", 0),))
            self.assertEqual(book.step(first, ("signal", "s", "q"), notes=("what", "ever"))[4], (("s", ("q",)),))

    def test_errors_in_their_order(self):
        book = self.book()
        first = book.standings()[0]
        self.assert_wrong("standing", book.step, ("over", "x"), None, None)
        self.assert_wrong("token", book.step, first, ("rang", 2), None)
        self.assert_wrong("notes", book.step, first, ("rang", 0), None)
        self.assert_raises(InvalidNote, {"at": 0}, book.step, first, ("rang", 0))
        self.assert_raises(InvalidNote, {"at": 0}, book.step, first, ("rang", 0), ("c",))
        behind = book.step(first, ("rang", 0), ("b",))
        self.assert_raises(Falls, {"word": "free", "path": (5,)}, book.step, behind, ("signal", "s", "p"))

    def test_wrong_tokens(self):
        book = self.book()
        first = book.standings()[0]
        full = book.step(book.step(first, ("signal", "s", "q")), ("signal", "s", "q"))
        self.assert_wrong("token", book.step, full, ("signal", "s", "q"))
        values = all_odd_values() + [("begin", "go"), ("rang", -1), ("rang", False), ("rang", True), ["rang", 0], ("rang", "0")]
        values += [("answer", 0, "yes"), ("signal", "s", "z"), ("signal", "r", "p"), ("set",), ("rang", 0, 0), ("rang",)]
        for value in values:
            with self.subTest(value=repr(value)[:60]):
                self.assert_wrong("token", book.step, first, value, None)

    def test_wrong_notes(self):
        book = self.book()
        for value in all_odd_values() + ["a", ("A",), [1], [None], {"a": 1}]:
            if value not in ((), [], ("a",), ["a"]):
                with self.subTest(value=repr(value)[:60]):
                    self.assert_wrong("notes", book.step, book.standings()[0], ("rang", 0), value)

    def test_nothing_may_come_to_what_is_over(self):
        book = Book(program_of([("timer", "t"), ("timer", "u"), ("await", "t", "x")]))
        self.assertIn(("over", "done"), book)
        for token in (("rang", 0), ("rang", 1), ("begin", "go")):
            self.assert_wrong("token", book.step, ("over", "done"), token)

    def test_a_step_is_live_for_the_kind_read_too(self):
        rows = [("take", "s", "x"), ("gate", "g", [("take", "s", "y")], [("end", "in")]), ("past", "h", []), ("take", "s", "y"),
                ("gate", "g", [("end", "x")], [("end", "y")])]
        book = Book(program_of(rows, signals={"s": (1, ("p",))}), kind="read")
        behind = book.step(book.standings()[0], ("signal", "s", "p"))
        self.assertEqual(behind[5], (("g", True),))
        rows = [("gate", "g", [], []), ("take", "s", "x"), ("past", "h", []), ("gate", "g", [("end", "x")], [("end", "in")])]
        book = Book(program_of(rows, signals={"s": (1, ("p",))}), kind="read")
        told = {standing[5]: book.step(standing, ("signal", "s", "p")) for standing in book.standings() if standing[0] == "at"}
        self.assertEqual(told, {(("g", True),): ("over", "p"), (("g", False),): ("over", "go")})

    def test_a_book_does_not_change_by_steps(self):
        book = self.book()
        before = (book.standings(), [book.turns_of(standing) for standing in book.standings()])
        for standing in book.standings():
            for turn, _ in book.turns_of(standing):
                book.step(standing, turn[0], [token[1] for token in turn if token[0] == "noted"])
        self.assertEqual((book.standings(), [book.turns_of(standing) for standing in book.standings()]), before)


class FallsTest(BookTest):
    def test_the_first_turn(self):
        for kind in KINDS:
            book = Book(program_of([("timer", "t"), ("await", "u", "x")], inputs=("b", "a")), kind=kind)
            self.assertEqual(book.falls(), [("free", (1,), [], ("begin", "a"), [("set",)])])

    def test_none(self):
        self.assertEqual(Book(program_of([("timer", "t"), ("await", "t", "x")])).falls(), [])

    def test_all_four_words_in_their_order(self):
        rows = [("take", "s", "x"),
                ("if", "x", "a", [("note", "y", ("w",))] * 4, []),
                ("if", "x", "b", [("timer", "t"), ("loop", [])], []),
                ("if", "x", "c", [("ask", "pay", "t"), ("drop", "t"), ("await", "t", "y")], []),
                ("timer", "u"), ("timer", "u")]
        token = ("signal", "s")
        for kind in KINDS:
            book = Book(program_of(rows, signals={"s": (1, ("c", "b", "a"))}), kind=kind)
            self.assertEqual([told[0] for told in book.falls()], ["free", "long", "notes"])
            self.assertEqual(book.falls(), [
                ("free", (3, 0, 2), [("begin", "go")], token + ("c",), [("asked", "pay"), ("dropped", 0)]),
                ("long", (2, 0, 1), [("begin", "go")], token + ("b",), [("set",)]),
                ("notes", (1, 0, 3), [("begin", "go")], token + ("a",), [("noted", "w")] * 3)])
            rows[2] = ("if", "x", "b", [("timer", "t"), ("timer", "t")], [])
            self.assertEqual(Book(program_of(rows, signals={"s": (1, ("c", "b", "a"))}), kind=kind).falls()[0],
                             ("busy", (2, 0, 1), [("begin", "go")], token + ("b",), [("set",)]))
            rows[2] = ("if", "x", "b", [("timer", "t"), ("loop", [])], [])

    def test_the_least_history_then_token_then_commands(self):
        rows = [("note", "x", ("b", "a")), ("both", ([("ask", "pay", "t"), ("await", "t", "y"), ("note", "y", ("d", "c")),
                                                      ("timer", "u"), ("await", "v", "y")], [("take", "s", "y")]))]
        book = Book(program_of(rows, signals={"s": (1, ("p",))}))
        self.assertEqual(book.falls(), [("free", (1, 0, 4), [("begin", "go"), ("noted", "a"), ("asked", "pay")],
                                         ("answer", 0, "no"), [("noted", "c"), ("set",)])])

    def test_a_later_fall_with_fewer_turns_is_not_hidden(self):
        """The first fall in the order of the rows is not the one with the least history."""
        rows = [("take", "s", "x"), ("if", "x", "a", [("take", "s", "y"), ("await", "t", "y")], [("await", "u", "y")])]
        book = Book(program_of(rows, signals={"s": (1, ("b", "a"))}))
        self.assertEqual(book.falls(), [("free", (1, 1, 0), [("begin", "go")], ("signal", "s", "b"), [])])

    def test_numbered_as_the_history_numbers_things(self):
        rows = [("timer", "a"), ("drop", "a"), ("timer", "a"), ("timer", "b"), ("await", "a", "x"), ("timer", "c"), ("await", "c", "x"),
                ("drop", "b"), ("timer", "d"), ("drop", "d"), ("await", "e", "x")]
        for kind in KINDS:
            history = [("begin", "go"), ("set",), ("dropped", 0), ("set",), ("set",), ("rang", 1), ("set",)]
            self.assertEqual(Book(program_of(rows), kind=kind).falls(),
                             [("free", (10,), history, ("rang", 3), [("dropped", 2), ("set",), ("dropped", 4)])])

    def test_for_the_kind_read_the_commands_ahead_of_the_fall(self):
        rows = [("take", "s", "x"), ("gate", "g", [("timer", "t")], [("past", "h", [("await", "u", "x")])]), ("await", "v", "x")]
        program = program_of(rows, signals={"s": (1, ("p",))})
        token = ("signal", "s", "p")
        self.assertEqual(Book(program).falls(), [("free", (2,), [("begin", "go")], token, [("marked", "g"), ("set",)])])
        self.assertEqual(Book(program, kind="read").falls(), [("free", (1, 1, 0, 0, 0), [("begin", "go")], token, [])])
        for _, _, history, token, commands in Book(program, kind="read").falls():
            self.assertEqual(read(program, history + [token] + commands), ("breaks", len(history), "falls"))

    def test_a_fall_behind_a_mark(self):
        rows = [("past", "g", []), ("gate", "h", [("await", "u", "x")], [("end", "in")])]
        self.assertEqual(Book(program_of(rows), kind="read").falls(), [("free", (1, 0, 0), [], ("begin", "go"), [("marked", "g"), ("marked", "h")])])
        self.assertEqual(Book(program_of(rows)).falls(), [("free", (1, 0, 0), [], ("begin", "go"), [("marked", "h")])])

    def test_the_same_history_for_several_words(self):
        rows = [("if", "in", "a", [("await", "t", "x")], [("timer", "t"), ("timer", "t")])]
        self.assertEqual(Book(program_of(rows, inputs=("a", "b"))).falls(),
                         [("busy", (0, 1, 1), [], ("begin", "b"), [("set",)]), ("free", (0, 0, 0), [], ("begin", "a"), [])])


class StuckTest(BookTest):
    def test_nothing_may_come(self):
        rows = [("both", ([("timer", "t"), ("await", "t", "x")], [("timer", "u"), ("await", "u", "x"), ("drop", "t")]))]
        book = Book(program_of(rows))
        stuck = at(((0, 0, 1),), {"in": "go", "x": "rang"})
        self.assertEqual(book.stuck(), [stuck])
        self.assertEqual(book.trapped(), [stuck])
        self.assertEqual(book.turns_of(stuck), [])

    def test_all_turns_fall(self):
        book = Book(program_of([("timer", "t"), ("await", "t", "x"), ("await", "t", "x")]))
        self.assertEqual(book.stuck(), book.standings())
        self.assertEqual(book.trapped(), book.standings())
        self.assertEqual(len(book), 1)

    def test_what_goes_round_for_ever_is_trapped_and_not_stuck(self):
        book = Book(program_of([("take", "s", "x"), ("if", "x", "a", [("loop", [("take", "s", "x")])], []), ("end", "x")],
                               signals={"s": (1, ("b", "a"))}))
        self.assertEqual(book.stuck(), [])
        self.assertEqual(book.trapped(), [at(((1, 0, 0, 0, 0),), {"in": "go", "x": word}, boxes=(("s", ()),)) for word in "ab"])
        self.assertEqual(book.standings()[0][0], "at")
        self.assertNotIn(book.standings()[0], book.trapped())

    def test_over_and_anew_are_no_traps(self):
        for row in (("end", "x"), ("anew", "x")):
            book = Book(program_of([("timer", "t"), ("await", "t", "x"), row]))
            self.assertEqual((book.stuck(), book.trapped()), ([], []))

    def test_by_the_turns_of_the_kind(self):
        program = program_of([("timer", "t"), ("await", "t", "x"), ("gate", "g", [("await", "u", "x")], [])])
        first = at(((1,),), {"in": "go", "x": "none"}, (("t", "timer", 0),))
        self.assertEqual((Book(program).stuck(), Book(program).trapped()), ([first], [first]))
        book = Book(program, kind="read")
        self.assertEqual((book.stuck(), book.trapped()), ([], []))
        self.assertEqual(book.turns_of(first), [([("rang", 0), ("ended", "done")], ("over", "done"))])

    def test_in_the_order_of_the_standings(self):
        rows = [("take", "s", "x"), ("if", "x", "a", [("take", "r", "y")], []), ("await", "t", "y")]
        book = Book(program_of(rows, signals={"s": (2, ("b", "a")), "r": (1, ("z",))}))
        for told in (book.stuck(), book.trapped()):
            self.assertTrue(told)
            self.assertEqual(told, [standing for standing in book.standings() if standing in told])


class UnusedTest(BookTest):
    def test_old_rows_of_a_gate(self):
        rows = [("timer", "t"), ("gate", "g", [("await", "t", "x")], [("if", "x", "a", [("put", "x", "b")], []), ("await", "t", "x")]),
                ("end", "x"), ("put", "x", "c")]
        program = program_of(rows)
        self.assertEqual(Book(program).unused_paths(), [(1, 1, 0), (1, 1, 0, 0, 0), (1, 1, 1), (3,)])
        self.assertEqual(Book(program, kind="read").unused_paths(), [(1, 1, 0, 0, 0), (3,)])

    def test_rows_that_only_turns_that_fall_do(self):
        book = Book(program_of([("timer", "t"), ("await", "t", "x"), ("put", "x", "a"), ("await", "t", "x")]))
        self.assertEqual(book.unused_paths(), [(2,), (3,)])

    def test_a_row_that_is_waited_at_for_ever_is_used(self):
        rows = [("take", "s", "x"), ("end", "x")]
        self.assertEqual(Book(program_of([("timer", "u"), ("timer", "t"), ("drop", "t"), ("both", (rows, [("take", "r", "y")]))],
                                         signals={"s": (1, ("a",)), "r": (1, ("a",))})).unused_paths(), [])

    def test_rows_behind_the_end_of_the_run_in_other_branches(self):
        rows = [("both", ([("end", "in")], [("put", "x", "a"), ("loop", [("leave",)])])), ("put", "x", "b")]
        self.assertEqual(Book(program_of(rows)).unused_paths(), [(0, 1, 0), (0, 1, 1), (0, 1, 1, 0, 0), (1,)])

    def test_all_rows(self):
        self.assertEqual(Book(program_of([])).unused_paths(), [])
        self.assertEqual(Book(program_of([("put", "x", "a")])).unused_paths(), [])


class LimitTest(BookTest):
    def test_exactly_the_limit_and_one_below_it(self):
        for kind in KINDS:
            program = program_of(GATED, signals={"s": (2, ("z", "y"))})
            many = len(Book(program, kind=kind))
            self.assertGreater(many, 5)
            self.assertEqual(len(Book(program, kind=kind, limit=many)), many)
            for limit in (many - 1, many - 2, 1):
                self.assert_raises(LimitExceeded, {"limit": limit}, Book, program, kind=kind, limit=limit)

    def test_one_standing(self):
        self.assertEqual(len(Book(program_of([]), limit=1)), 1)
        self.assertEqual(len(Book(program_of([("await", "t", "x")]), limit=1)), 0)

    def test_the_default_limit(self):
        program = program_of([("take", name, slot) for name, slot in (("s", "x"), ("r", "y"), ("q", "z"))] * 4,
                             signals={name: (3, ("a", "b", "c")) for name in ("q", "r", "s")})
        self.assert_raises(LimitExceeded, {"limit": 1000}, Book, program)
        self.assert_raises(LimitExceeded, {"limit": 1000}, Book, program, kind="read")

    def test_wrong_arguments_in_their_order(self):
        program = program_of([("take", "s", "x")] * 9, signals={"s": (3, ("a", "b", "c"))})
        for value in all_odd_values():
            if not isinstance(value, Program):
                self.assert_wrong("program", Book, value, kind=None, limit=None)
            self.assert_wrong("kind", Book, program, kind=value, limit=None)
            if value != 1 or value is True:
                self.assert_wrong("limit", Book, program, kind="read", limit=value)
        for value in ("Write", "reads", "", ("write",), ["read"], b"read"):
            self.assert_wrong("kind", Book, program, kind=value, limit=1)
        for value in (0, -1, 1001, 10 ** 30, True, False, "10"):
            self.assert_wrong("limit", Book, program, limit=value)
        self.assert_raises(LimitExceeded, {"limit": 1}, Book, program, kind="write", limit=1)

    def test_kind_and_limit_are_passed_by_keyword(self):
        with self.assertRaises(TypeError):
            Book(Program([]), "write")
        self.assertEqual(len(Book(program=Program([]), kind="read", limit=1000)), 1)


class StandingArgumentTest(BookTest):
    def calls(self, book):
        return [book.least_history, book.turns_of, lambda standing: book.step(standing, None, None)]

    def test_any_other_value(self):
        book = Book(program_of(GATED, signals={"s": (1, ("z",))}), kind="read")
        values = all_odd_values() + [book, ("over", "z"), ("over",), ("anew", "done"), list(book.standings()[0])]
        for standing in book.standings():
            values += [value for value in variants(standing) if value not in book]
        for value in values:
            for call in self.calls(book):
                self.assert_wrong("standing", call, value)

    def test_a_standing_of_another_book(self):
        one, other = [Book(program_of([("timer", "t"), ("await", "t", "x"), ("put", "x", word), ("end", "x")])) for word in "ab"]
        self.assertEqual(one.least_history(("over", "a"))[-1], ("ended", "a"))
        self.assert_wrong("standing", one.least_history, ("over", "b"))
        self.assert_wrong("standing", other.turns_of, ("over", "a"))

    def test_arguments_by_name(self):
        book = Book(program_of([("timer", "t"), ("await", "t", "x")]))
        first = book.standings()[0]
        self.assertEqual(book.least_history(standing=first), [("begin", "go"), ("set",)])
        self.assertEqual(len(book.turns_of(standing=first)), 1)
        self.assertEqual(book.step(standing=first, token=("rang", 0), notes=[]), ("over", "done"))

    def test_methods_stand_in_the_class_itself(self):
        names = ["standings", "__len__", "__contains__", "least_history", "turns_of", "step", "falls", "stuck", "trapped"]
        for name in names + ["unused_paths", "__init__"]:
            self.assertIn(name, vars(Book))

    def test_the_program_keeps_as_it_was(self):
        program = program_of(GATED, signals={"s": (1, ("z",))})
        same = program_of(GATED, signals={"s": (1, ("z",))})
        Book(program, kind="read")
        self.assertEqual(program, same)
        self.assertEqual(Run(program, "go").history(), Run(same, "go").history())


if __name__ == "__main__":
    unittest.main()
