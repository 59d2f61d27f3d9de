"""How long runs stay open, [11.1] to [11.5], and that an outlook is a book."""

import unittest

from openruns.books import Book
from openruns.errors import InvalidArgument, LimitExceeded
from openruns.outlook import Outlook
from openruns.programs import Program
from openruns.reading import cut, read
from tests.helpers import Raises, all_odd_values

KINDS = ("write", "read")
ASKS = {"pay": ("yes", "no")}
ROUND = [("timer", "t"), ("loop", [("await", "t", "x"), ("timer", "t")])]
STEPS = [("timer", "t"), ("await", "t", "x")]


def program_of(rows, **more):
    return Program(rows, **{"asks": ASKS, **more})


class OutlookTest(Raises, unittest.TestCase):
    def told(self, outlook):
        """What is told of the standings, in their order."""
        return [(outlook.soonest(standing), outlook.rank(standing)) for standing in outlook.standings()]


class EndingTest(OutlookTest):
    """Programs that always end."""

    def test_a_straight_way(self):
        for kind in KINDS:
            outlook = Outlook(program_of(STEPS * 3), kind=kind)
            self.assertEqual(self.told(outlook), [(3, 3), (2, 2), (1, 1), (0, 0)])
            self.assertEqual(outlook.longest_open(), 3)
            self.assertIsNone(outlook.ring())

    def test_a_short_way_and_a_long_one(self):
        rows = [("ask", "pay", "a"), ("await", "a", "x"), ("if", "x", "yes", STEPS * 2, [])]
        outlook = Outlook(program_of(rows))
        self.assertEqual(self.told(outlook)[0], (1, 3))
        self.assertEqual(outlook.longest_open(), 3)
        self.assertEqual(outlook.soonest(("over", "done")), 0)
        self.assertEqual(outlook.rank(("over", "done")), 0)

    def test_over_at_once(self):
        for row, standing in ((("end", "in"), ("over", "go")), (("anew", "in"), ("anew", "go"))):
            outlook = Outlook(program_of([row]))
            self.assertEqual(outlook.standings(), [standing])
            self.assertEqual(self.told(outlook), [(0, 0)])
            self.assertEqual(outlook.longest_open(), 0)
            self.assertIsNone(outlook.ring())

    def test_anew_is_an_end(self):
        outlook = Outlook(program_of(STEPS + [("anew", "x")]))
        self.assertEqual(self.told(outlook), [(1, 1), (0, 0)])
        self.assertEqual(outlook.longest_open(), 1)

    def test_no_standings(self):
        outlook = Outlook(program_of([("await", "t", "x")]))
        self.assertEqual(outlook.longest_open(), 0)
        self.assertIsNone(outlook.ring())

    def test_signals_that_nobody_takes_are_turns_too(self):
        outlook = Outlook(program_of(STEPS, signals={"s": (2, ("a",))}))
        self.assertEqual(self.told(outlook), [(1, 3), (0, 0), (1, 2), (1, 1)])
        self.assertEqual(outlook.longest_open(), 3)
        self.assertIsNone(outlook.ring())

    def test_inputs_that_last_longer(self):
        rows = [("if", "in", "b", STEPS * 4, STEPS)]
        outlook = Outlook(program_of(rows, inputs=("a", "b")))
        self.assertEqual(self.told(outlook)[:2], [(1, 1), (4, 4)])
        self.assertEqual(outlook.longest_open(), 4)

    def test_each_turn_leads_to_a_smaller_rank(self):
        rows = [("both", (STEPS * 2, [("ask", "pay", "a"), ("await", "a", "y")]))]
        outlook = Outlook(program_of(rows, signals={"s": (1, ("z",))}))
        for standing in outlook.standings():
            ranks = [outlook.rank(behind) for _, behind in outlook.turns_of(standing)]
            self.assertTrue(all(rank < outlook.rank(standing) for rank in ranks))
            if ranks:
                self.assertEqual(max(ranks) + 1, outlook.rank(standing))


class RoundTest(OutlookTest):
    """Programs that may go round for ever."""

    def test_for_ever(self):
        outlook = Outlook(program_of(ROUND))
        self.assertEqual(self.told(outlook), [(None, None), (None, None)])
        self.assertIsNone(outlook.longest_open())
        ring = outlook.ring()
        self.assertEqual(ring, ([("begin", "go"), ("set",), ("rang", 0), ("set",), ("rang", 1), ("set",)], 2))
        self.assertIsInstance(ring, tuple)

    def test_a_way_out(self):
        rows = [("loop", [("ask", "pay", "a"), ("await", "a", "x"), ("if", "x", "yes", [("leave",)], [])])] + STEPS
        outlook = Outlook(program_of(rows))
        self.assertEqual(self.told(outlook), [(2, None), (2, None), (1, 1), (0, 0)])
        self.assertIsNone(outlook.longest_open())
        history = [("begin", "go"), ("asked", "pay"), ("answer", 0, "no"), ("asked", "pay"), ("answer", 1, "no"), ("asked", "pay")]
        self.assertEqual(outlook.ring(), (history, 2))

    def test_a_longer_ring(self):
        rows = [("loop", [("put", "x", "none")] + [("timer", "t"), ("await", "t", "y"), ("timer", "u"), ("await", "u", "y")])]
        outlook = Outlook(program_of(rows))
        history, turns = outlook.ring()
        self.assertEqual(turns, 2)
        self.assertEqual([turn[0][0] for turn in cut(history)], ["begin"] + ["rang"] * 3)
        self.assertEqual(history[-1], ("set",))
        program = program_of(rows)
        self.assertEqual(read(program, history), read(program, sum(cut(history)[:turns], [])))

    def test_fewer_turns_come_before_lesser_ones(self):
        """The lesser answer leads to a ring of more turns."""
        rows = [("ask", "pay", "a"), ("await", "a", "x"),
                ("if", "x", "no", [("loop", (STEPS + [("timer", "u"), ("await", "u", "y")]))], [("loop", STEPS)])]
        history, turns = Outlook(program_of(rows)).ring()
        self.assertEqual(turns, 3)
        self.assertEqual(len(cut(history)), 4)
        self.assertEqual(cut(history)[1], [("answer", 0, "yes"), ("set",)])

    def test_the_least_one_of_those_with_as_many_turns(self):
        rows = [("loop", [("ask", "pay", "a"), ("note", "x", ("c", "b")), ("await", "a", "x")])]
        outlook = Outlook(program_of(rows, inputs=("d", "c")))
        ask = [("asked", "pay"), ("noted", "b")]
        history = [("begin", "c")] + ask + [("answer", 0, "no")] + ask
        self.assertEqual(outlook.ring(), (history, 1))

    def test_a_ring_whose_beginning_is_reached_later(self):
        """The whole history is compared: the standing that is reached later is the one of the lesser history."""
        step = [("timer", "t"), ("await", "t", "x"), ("put", "x", "none")]
        rows = [("if", "in", "b", [("loop", step * 3)], step + [("loop", step * 2)])]
        start = [("set",), ("rang", 0), ("set",), ("rang", 1), ("set",), ("rang", 2), ("set",)]
        for inputs in (("a", "b"), ("b", "a")):
            self.assertEqual(Outlook(program_of(rows, inputs=inputs)).ring(), ([("begin", "a")] + start, 2))
        self.assertEqual(Outlook(program_of(rows, inputs=("b",))).ring(), ([("begin", "b")] + start, 1))

    def test_the_least_way_round(self):
        """Of several turns to one standing the least one, on the way there and round."""
        rows = [("loop", [("timer", "b"), ("timer", "a"), ("first", ("a", "b"), "x"), ("drop", "a"), ("drop", "b"), ("put", "x", "a")])]
        start = [("begin", "go"), ("set",), ("set",)]
        first = [("rang", 0), ("dropped", 1), ("set",), ("set",)]
        again = [("rang", 2), ("dropped", 3), ("set",), ("set",)]
        self.assertEqual(Outlook(program_of([("put", "x", "a")] + rows)).ring(), (start + first, 1))
        self.assertEqual(Outlook(program_of(rows)).ring(), (start + first + again, 2))

    def test_numbers_as_the_history_has_them(self):
        rows = [("timer", "a"), ("drop", "a"), ("timer", "k")] + ROUND
        history, turns = Outlook(program_of(rows)).ring()
        self.assertEqual(history, [("begin", "go"), ("set",), ("dropped", 0), ("set",), ("set",), ("rang", 2), ("set",),
                                   ("rang", 3), ("set",)])
        self.assertEqual(turns, 2)

    def test_in_reading_alone(self):
        program = program_of([("timer", "t"), ("await", "t", "x"), ("gate", "g", [], [("loop", STEPS)])])
        self.assertEqual(self.told(Outlook(program)), [(1, 1), (0, 0)])
        self.assertEqual(Outlook(program).longest_open(), 1)
        self.assertIsNone(Outlook(program).ring())
        outlook = Outlook(program, kind="read")
        self.assertEqual(self.told(outlook), [(1, None), (0, 0), (None, None)])
        self.assertIsNone(outlook.longest_open())
        self.assertEqual(outlook.ring(), ([("begin", "go"), ("set",), ("rang", 0), ("set",), ("rang", 1), ("set",)], 2))


class StuckTest(OutlookTest):
    """Programs that get stuck."""

    def test_stuck_at_once(self):
        outlook = Outlook(program_of([("timer", "t"), ("await", "t", "x"), ("await", "t", "x")]))
        self.assertEqual(self.told(outlook), [(None, None)])
        self.assertEqual(outlook.longest_open(), 1)
        self.assertIsNone(outlook.ring())

    def test_stuck_later(self):
        rows = STEPS + [("both", ([("timer", "t"), ("await", "t", "x")], [("timer", "u"), ("await", "u", "x"), ("drop", "t")]))]
        outlook = Outlook(program_of(rows))
        stuck = outlook.stuck()
        self.assertEqual(len(stuck), 1)
        self.assertEqual(outlook.trapped(), stuck)
        self.assertEqual((outlook.soonest(stuck[0]), outlook.rank(stuck[0])), (None, None))
        first = outlook.standings()[0]
        self.assertEqual((outlook.soonest(first), outlook.rank(first)), (3, None))
        self.assertEqual(outlook.rank([one for one in outlook.standings() if outlook.soonest(one) == 1][0]), 1)
        self.assertEqual(outlook.longest_open(), 3)

    def test_soonest_is_none_exactly_for_what_is_trapped(self):
        rows = [("take", "s", "x"), ("if", "x", "a", [("loop", [("take", "s", "x")])], []), ("if", "x", "b", [("await", "t", "x")], [])]
        outlook = Outlook(program_of(rows, signals={"s": (1, ("a", "b", "c"))}))
        self.assertEqual([one for one in outlook.standings() if outlook.soonest(one) is None], outlook.trapped())
        self.assertEqual(outlook.soonest(outlook.standings()[0]), 1)
        self.assertIsNone(outlook.rank(outlook.standings()[0]))


class BookTest(OutlookTest):
    def test_an_outlook_is_a_book(self):
        program = program_of(ROUND, signals={"s": (1, ("z",))})
        for kind in KINDS:
            book, outlook = Book(program, kind=kind), Outlook(program, kind=kind)
            self.assertIsInstance(outlook, Book)
            self.assertEqual(outlook.standings(), book.standings())
            self.assertEqual(len(outlook), len(book))
            self.assertEqual(outlook.falls(), book.falls())
            self.assertEqual(outlook.unused_paths(), book.unused_paths())
            for standing in book.standings():
                self.assertIn(standing, outlook)
                self.assertEqual(outlook.turns_of(standing), book.turns_of(standing))
                self.assertEqual(outlook.least_history(standing), book.least_history(standing))

    def test_the_same_refusals(self):
        program = program_of([("take", "s", "x")] * 9, signals={"s": (3, ("a", "b", "c"))})
        for value in all_odd_values():
            if not isinstance(value, Program):
                self.assert_raises(InvalidArgument, {"part": "program"}, Outlook, value, kind=None, limit=None)
            self.assert_raises(InvalidArgument, {"part": "kind"}, Outlook, program, kind=value, limit=None)
            if value != 1 or value is True:
                self.assert_raises(InvalidArgument, {"part": "limit"}, Outlook, program, limit=value)
        for limit in (0, 1001, True):
            self.assert_raises(InvalidArgument, {"part": "limit"}, Outlook, program, kind="read", limit=limit)
        self.assert_raises(LimitExceeded, {"limit": 20}, Outlook, program, limit=20)
        with self.assertRaises(TypeError):
            Outlook(program, "write")

    def test_the_limit(self):
        program = program_of(STEPS * 3)
        self.assertEqual(len(Outlook(program, limit=4)), 4)
        self.assert_raises(LimitExceeded, {"limit": 3}, Outlook, program, limit=3)

    def test_wrong_standings(self):
        outlook = Outlook(program_of([("gate", "g", [], [])] + STEPS))
        first = outlook.standings()[0]
        self.assertIs(first[5][0][1], True)
        values = all_odd_values() + [list(first), ("over", "x"), ("anew", "done"), first[:5] + ((("g", 1),),)]
        values += [first[:1] + (((True,),),) + first[2:], first[:3] + ((("t", "timer", False),),) + first[4:], outlook]
        for value in values:
            for call in (outlook.soonest, outlook.rank, outlook.turns_of):
                self.assert_raises(InvalidArgument, {"part": "standing"}, call, value)
        self.assertEqual((outlook.soonest(standing=first), outlook.rank(standing=first)), (1, 1))

    def test_methods_stand_in_the_class_itself(self):
        for name in ("__init__", "soonest", "rank", "longest_open", "ring"):
            self.assertIn(name, vars(Outlook))

    def test_lists_belong_to_the_caller(self):
        outlook = Outlook(program_of(ROUND))
        told = outlook.ring()
        told[0].clear()
        self.assertEqual(len(outlook.ring()[0]), 6)


if __name__ == "__main__":
    unittest.main()
