"""Programs alike, [7.1] to [7.3], and what the general rules say of them."""

import copy
import random
import unittest
import unittest.mock

from openruns.alike import Histories, Language, alike, parted
from openruns.books import Book
from openruns.errors import InvalidArgument, InvalidHistory, InvalidProgram, LimitExceeded
from openruns.programs import Program
from openruns.reading import numbered
from tests.helpers import Raises, all_odd_values
from tests.made import changed_program, round_program, small_program
from tests.search import all_histories, by_age
from tests.test_search import KINDS, Counted, tokens_of

HEAD = [("timer", "t"), ("await", "t", "x")]
PAY = {"pay": ("no", "yes")}
GO = ("begin", "go")
ROUND = [("loop", HEAD)]


def is_class(value, many):
    return type(value) is int and 0 <= value < many


class AlikeTest(Raises, unittest.TestCase):
    def assert_wrong(self, part, call, *args, **named):
        self.assert_raises(InvalidArgument, {"part": part}, call, *args, **named)


class TableTest(AlikeTest):
    def test_classes_in_the_order_of_their_least_histories(self):
        rows = [("ask", "pay", "a"), ("timer", "t"), ("first", ("a", "t"), "x"), ("drop", "t"), ("if", "x", "t", [("anew", "in")], HEAD)]
        program = Program(rows, asks=PAY, inputs=("b", "a"))
        begun = [((("begin", word), ("asked", "pay"), ("set",)), number) for word, number in (("a", 1), ("b", 2))]
        answered = [((("answer", 0, word), ("dropped", 1), ("set",)), 3) for word in ("no", "yes")]
        rows_of_both = [tuple(begun)]
        rows_of_both += [tuple(answered + [((("rang", 1), ("anew", word)), 4)]) for word in ("a", "b")]
        # The end comes with two turns, and so do the answers, which are less.
        rows_of_both += [(((("rang", 0), ("ended", "done")), 4),), ()]
        for kind in KINDS:
            language = Language(program, kind=kind)
            self.assertEqual(language.rows(), tuple(rows_of_both))
            self.assertEqual(len(language), 5)
            self.assertEqual([language[k] for k in range(5)], rows_of_both)
            standings = [language.standings(k) for k in range(5)]
            self.assertEqual([len(some) for some in standings], [0, 1, 1, 4, 3])
            self.assertEqual(standings[4], [("anew", "a"), ("anew", "b"), ("over", "done")])
            self.assertEqual([standing for some in standings for standing in some if standing[0] == "at"],
                             [standing for standing in Book(program, kind=kind).standings() if standing[0] == "at"])

    def test_kinds(self):
        program = Program([("gate", "g", [("timer", "t")], [("ask", "pay", "t")]), ("await", "t", "x")], asks={"pay": ("yes",)})
        marked = ((GO, ("marked", "g"), ("set",)), ((("rang", 0), ("ended", "done")), ))
        write = Language(program, kind="write")
        self.assertEqual(write.rows(), (((marked[0], 1),), ((marked[1][0], 2),), ()))
        asked = (GO, ("asked", "pay"))
        answer = (("answer", 0, "yes"), ("ended", "done"))
        for read in (Language(program), Language(program, kind="read")):
            self.assertEqual(read.rows(), (((asked, 1), (marked[0], 2)), ((answer, 3),), ((marked[1][0], 3),), ()))
        self.assertNotEqual(read, write)
        self.assertTrue(write.within(read))
        self.assertFalse(read.within(write))

    def test_no_histories(self):
        for rows in ([("await", "t", "x")], [("loop", [])]):
            for kind in KINDS:
                language = Language(Program(rows), kind=kind)
                self.assertEqual((language.rows(), len(language), language[0], language.standings(0)), (((),), 1, (), []))
                self.assertNotIn([GO], language)
                self.assertEqual(language, Language(Program([("timer", "t"), ("timer", "t")])))
                self.assert_wrong("history", language.class_of, [GO])
        self.assertNotEqual(Language(Program([])), language)
        self.assertEqual(Language(Program([])).rows(), ((((GO, ("ended", "done")), 1),), ()))

    def test_all_ends_are_one_class(self):
        """Ends with different words, and a run that is stuck."""
        rows = [("ask", "pay", "a"), ("await", "a", "x"), ("if", "x", "no", [("both", ([("timer", "t"), ("await", "t", "x")], [("end", "x")]))],
                [("if", "x", "on", [("take", "s", "y")], [("anew", "x")])])]
        program = Program(rows, asks={"pay": ("no", "yes")}, signals={"s": (1, ("a",))}, inputs=("go",))
        language = Language(program, kind="write")
        ends = [standing for k in range(len(language)) for standing in language.standings(k) if standing[0] != "at"]
        self.assertEqual([standing for standing in language.standings(language.class_of(
            [GO, ("asked", "pay"), ("answer", 0, "yes"), ("anew", "yes")]))], ends)
        stuck = Program([("timer", "t"), ("both", ([("await", "t", "x")], [("await", "t", "x")]))])
        self.assertEqual(Language(stuck).rows(), Language(Program([("timer", "t"), ("both", ([("await", "t", "y")], [("await", "t", "z")]))])).rows())
        self.assertEqual(Language(stuck)[2], ())
        self.assertEqual([standing[0] for standing in Language(stuck).standings(2)], ["at"])

    def test_rounds(self):
        language = Language(Program(ROUND + [("end", "x")]))
        turn = ((GO, ("set",)), 1)
        self.assertEqual(language.rows(), ((turn,), (((("rang", 0), ("set",)), 1),)))
        self.assertEqual([standing[2][1] for standing in language.standings(1)], [("x", "none"), ("x", "rang")])
        history = [GO, ("set",)]
        for number in range(6000):
            history += [("rang", number), ("set",)]
        self.assertIn(history, language)
        self.assertEqual(language.class_of(history), 1)
        self.assertNotIn(history + [("rang", 6000)], language)
        self.assertNotIn(history + [("rang", 5999), ("set",)], language)

    def test_long_rings_of_classes(self):
        """Counting by slots: the classes differ only by what comes after many turns."""
        step = [("timer", "t"), ("await", "t", "w")]
        count = [("if", "x", "no", [("put", "x", "yes")], [("put", "x", "no"), ("if", "y", "no", [("put", "y", "yes")], [
            ("put", "y", "no"), ("if", "z", "no", [("put", "z", "yes")], [("end", "z")])])])]
        program = Program([("put", "x", "no"), ("put", "y", "no"), ("put", "z", "no"), ("loop", step * 12 + count)])
        language = Language(program)
        self.assertEqual(len(language), 8 * 12 + 2)
        self.assertEqual([[number for _, number in row] for row in language.rows()], [[k] for k in range(1, len(language))] + [[]])
        self.assertEqual([len(language.standings(k)) for k in range(1, len(language))], [1] * (len(language) - 1))

    def test_programs_that_differ_in_their_rows_alone(self):
        programs = [Program([("timer", "t"), ("await", "t", "x"), ("end", "in")]), Program([("part", HEAD), ("put", "z", "b"), ("end", "in")]),
                    Program([("timer", "u"), ("first", ("u",), "x"), ("end", "in")], inputs=("go",)),
                    Program([("both", (HEAD, []),), ("end", "in")])]
        for kind in KINDS:
            for one in programs:
                for other in programs:
                    self.assertEqual(Language(one, kind=kind), Language(other, kind=kind))
                    self.assertEqual(Language(one, kind=kind).rows(), Language(other, kind=kind).rows())
                    self.assertTrue(alike(one, other))
                    self.assertIsNone(parted(one, other))
        self.assertFalse(alike(programs[0], Program([("timer", "t"), ("await", "t", "x"), ("end", "x")])))


class HistoriesTest(AlikeTest):
    def setUp(self):
        self.program = Program([("ask", "pay", "a"), ("await", "a", "x"), ("if", "x", "no", ROUND, [("end", "x")])], asks=PAY)
        self.language = Language(self.program)
        self.begun = [GO, ("asked", "pay")]

    def test_in(self):
        language = self.language
        for history in (self.begun, self.begun + [("answer", 0, "no"), ("set",)], self.begun + [("answer", 0, "yes"), ("ended", "yes")],
                        self.begun + [("answer", 0, "no"), ("set",), ("rang", 1), ("set",)]):
            self.assertIs(history in language, True)
        wrong = [[GO], self.begun + [("answer", 0, "no")], self.begun + [("answer", 0, "yes"), ("ended", "no")], self.begun + [("answer", False, "no"), ("set",)],
                 self.begun + [("answer", 0, "no"), ("set",), ("rang", 0), ("set",)], [("begin", "no"), ("asked", "pay")], tuple(self.begun),
                 [list(token) for token in self.begun], self.begun[1:], self.begun + [("answer", 1, "no"), ("set",)], [tuple(self.begun)], []]
        for value in wrong + all_odd_values():
            self.assertIs(value in language, False)

    def test_class_of(self):
        language = self.language
        self.assertEqual(language.class_of(self.begun), 1)
        self.assertEqual(language.class_of(history=self.begun + [("answer", 0, "no"), ("set",)]), 2)
        self.assertEqual(language.class_of(self.begun + [("answer", 0, "yes"), ("ended", "yes")]), 3)
        self.assertEqual(language.class_of(self.begun + [("answer", 0, "no"), ("set",), ("rang", 1), ("set",)]), 2)
        for value in all_odd_values():
            self.assert_raises(InvalidHistory, {"at": 0 if isinstance(value, list) else -1}, language.class_of, value)
        self.assert_raises(InvalidHistory, {"at": 2}, language.class_of, self.begun + [("rang", 0)])
        for history in ([GO], self.begun + [("answer", 0, "no")], self.begun + [("answer", 0, "no"), ("asked", "pay")]):
            self.assert_wrong("history", language.class_of, history)

    def test_classes_by_number(self):
        for some in (self.language, self.language & self.language, self.language | Language(Program(HEAD))):
            for value in all_odd_values() + [-1, len(some), len(some) - 1, True, False, 2]:
                if is_class(value, len(some)):
                    self.assertEqual(some[value], some.rows()[value])
                    self.assertIsInstance(some.standings(value), list)
                else:
                    self.assert_wrong("k", lambda: some[value])
                    self.assert_wrong("k", some.standings, value)
                    self.assert_wrong("k", some.standings, k=value)

    def test_it_is_not_iterated_over(self):
        self.assertRaises(TypeError, list, self.language)
        self.assertRaises(TypeError, iter, self.language & self.language)

    def test_equality_with_other_values(self):
        for value in all_odd_values() + [self.language.rows(), Book(self.program), self.program]:
            self.assertIs(self.language == value, False)
            self.assertIs(value == self.language, False)
            self.assertIs(self.language != value, True)
        self.assertIs(self.language == Language(self.program), True)
        self.assertIs(self.language != Language(self.program), False)
        self.assertIs(self.language == (self.language & self.language), True)

    def test_lists_are_new(self):
        told = self.language.standings(2)
        before = copy.deepcopy(told)
        told.clear()
        self.assertEqual(self.language.standings(2), before)

    def test_both_and_either(self):
        """Sets of different kinds and programs."""
        gated = Program([("gate", "g", [("timer", "t")], [("ask", "pay", "t")]), ("await", "t", "x")], asks=PAY)
        asked = Program([("ask", "pay", "a"), ("await", "a", "x"), ("end", "x")], asks={"pay": ("no", "yes")})
        read, write, other = Language(gated), Language(gated, kind="write"), Language(asked)
        both = read & other
        self.assertIs(type(both), Histories)
        begun = ((GO, ("asked", "pay")), 1)
        self.assertEqual(both.rows(), ((begun,), ()))
        either = read | other
        self.assertIs(type(either), Histories)
        marked = ((GO, ("marked", "g"), ("set",)), 2)
        answers = tuple([((("answer", 0, word), ("ended", end)), 3) for word, ends in (("no", ("done", "no")), ("yes", ("done", "yes"))) for end in ends])
        self.assertEqual(either.rows(), ((begun, marked), answers, (((("rang", 0), ("ended", "done")), 3),), ()))
        self.assertEqual([either.standings(k) for k in range(4)], [[], [], [], []])
        self.assertEqual([both.standings(k) for k in range(2)], [[], []])
        self.assertEqual((read & write, read | write), (write, read))
        self.assertEqual((write & read, write | read), (write, read))
        self.assertEqual((both & either, both | either), (both, either))
        self.assertEqual(write & other, Language(Program([("await", "t", "x")])))
        self.assertEqual(len(write & other), 1)
        self.assertIn([GO, ("asked", "pay"), ("answer", 0, "yes"), ("ended", "done")], either)
        self.assertEqual(either.class_of([GO, ("asked", "pay"), ("answer", 0, "yes"), ("ended", "done")]), 3)
        self.assertNotIn([GO, ("asked", "pay"), ("answer", 0, "yes"), ("ended", "done")], both)

    def test_within(self):
        nothing = Language(Program([("await", "t", "x")]))
        part = self.language & Language(Program([("ask", "pay", "a"), ("await", "a", "x"), ("if", "x", "no", HEAD, [("end", "x")])], asks=PAY))
        self.assertEqual(len(part), 3)
        for one, other, expected in [(part, self.language, True), (self.language, part, False), (nothing, part, True), (part, nothing, False),
                                     (nothing, nothing, True), (self.language, self.language, True), (self.language, self.language | part, True)]:
            self.assertIs(one.within(other), expected)
            self.assertIs(one.within(other=other), expected)
        for value in all_odd_values():
            self.assert_wrong("other", self.language.within, value)
            self.assert_wrong("other", part.within, value)

    def test_what_is_no_set_of_histories(self):
        for value in (None, 1, [], Program([])):
            for call in (lambda: self.language & value, lambda: self.language | value, lambda: value & self.language, lambda: value | self.language):
                self.assertRaises(TypeError, call)


class LimitTest(AlikeTest):
    def round_program(self, places, slots, words):
        """A program that goes round by a timer; if its ask is answered, it ends with the word of its last slot."""
        rows = [("put", slot, words[0]) for slot in slots if words[0] != "none"] + [("ask", "pay", "a")]
        place = [("timer", "t"), ("first", ("a", "t"), "w"), ("if", "w", "a", [("end", slots[-1])], []), ("drop", "t")]
        return Program(rows + [("loop", place * places + self.steps(slots, words))], asks={"pay": ("yes",)})

    def steps(self, slots, words):
        """Rows that let the first slot have the next word, and the next slot too when the words are through."""
        slot, further = slots[0], slots[1:]
        steps = [("if", slot, words[k], [("put", slot, words[k + 1])], []) for k in reversed(range(len(words) - 1))]
        if further:
            return [("if", slot, words[-1], [("put", slot, words[0])] + self.steps(further, words), steps)]
        return [("if", slot, words[-1], [("put", slot, "last")], [])] + steps + [("if", slot, "last", [("put", slot, words[0])], [])]

    def pairs_of(self, one, other, in_both):
        """The pairs of classes, from the tables alone."""
        found, left = set(), [(0, 0)]
        while left:
            first, second = left.pop()
            ones = dict(one.rows()[first]) if first is not None else {}
            others = dict(other.rows()[second]) if second is not None else {}
            for turn in set(ones) & set(others) if in_both else set(ones) | set(others):
                pair = (ones.get(turn), others.get(turn))
                if pair not in found:
                    found.add(pair)
                    left.append(pair)
        return len(found)

    def test_10000_pairs_and_10001(self):
        """Rounds of 16 and of 625 turns; where the words of their ends differ, there is no pair of ends."""
        one = Language(self.round_program(4, "x", "pqrs"))
        like_other = Language(self.round_program(4, "x", ("none", "b", "p", "q")))
        other = Language(self.round_program(5, "xyz", ("none", "a", "b", "c", "d")))
        self.assertEqual([len(some) for some in (one, like_other, other)], [18, 18, 627])
        self.assertEqual(self.pairs_of(one, other, True), 10000)
        self.assertEqual(self.pairs_of(like_other, other, True), 10001)
        # Only the turns of both are left, all of them alike.
        self.assertEqual(len(one & other), 2)
        self.assertEqual(len(other & one), 2)
        self.assertIs(one.within(other), False)
        for call in (lambda: like_other & other, lambda: other & like_other, lambda: like_other.within(other), lambda: other.within(like_other),
                     lambda: one | other, lambda: like_other | other):
            self.assert_raises(LimitExceeded, {"limit": 10000}, call)

    def test_limits_of_pairs(self):
        """The same with another number in the place of 10000."""
        one = Language(self.round_program(2, "x", "pq"))
        other = Language(self.round_program(1, "x", "abc"))
        some = Language(self.round_program(1, "x", "apq"))
        for first, second in ((one, other), (other, one), (one, one), (one, some), (some, other)):
            for in_both, calls in ((True, [lambda: first & second, lambda: first.within(second)]), (False, [lambda: first | second])):
                many = self.pairs_of(first, second, in_both)
                for call in calls:
                    with unittest.mock.patch("openruns.classes.MOST_PAIRS", many):
                        call()
                    with unittest.mock.patch("openruns.classes.MOST_PAIRS", many - 1):
                        self.assert_raises(LimitExceeded, {"limit": many - 1}, call)

    def test_limits_of_languages(self):
        program = Program([("note", "x", ("a", "b", "c"))] + HEAD)
        for kind in KINDS:
            many = len(Book(program, kind=kind))
            self.assertEqual(many, 4)
            self.assertEqual(len(Language(program, kind=kind, limit=many)), 3)
            for limit in range(1, many):
                self.assert_raises(LimitExceeded, {"limit": limit}, Language, program, kind=kind, limit=limit)

    def test_limits_of_alike_and_parted(self):
        """Each of the four languages may raise it, also where the others tell the answer already."""
        plain, noted = Program(HEAD), Program([("note", "x", ("a", "b", "c"))] + HEAD)
        gated = Program([("gate", "g", [], [("note", "x", ("a", "b", "c"))])] + HEAD)
        for one, other, many in ((plain, noted, 4), (noted, plain, 4), (plain, gated, 8), (gated, plain, 8)):
            most = max([len(Book(program, kind=kind)) for program in (one, other) for kind in KINDS])
            self.assertFalse(alike(one, other, limit=most))
            self.assertIsNotNone(parted(one, other, limit=most))
            self.assertLessEqual(most, many)
            for limit in range(1, most):
                self.assert_raises(LimitExceeded, {"limit": limit}, alike, one, other, limit=limit)
                self.assert_raises(LimitExceeded, {"limit": limit}, parted, one, other, limit=limit)


class ArgumentsTest(AlikeTest):
    def test_wrong_arguments_in_their_order(self):
        program = Program(HEAD)
        for value in all_odd_values():
            if not isinstance(value, Program):
                self.assert_wrong("program", Language, value, kind=None, limit=None)
                for call in (alike, parted):
                    self.assert_wrong("one", call, value, None, limit=None)
                    self.assert_wrong("other", call, program, value, limit=None)
            self.assert_wrong("kind", Language, program, kind=value, limit=None)
            if type(value) is not int or not 1 <= value <= 1000:
                self.assert_wrong("limit", Language, program, limit=value)
                self.assert_wrong("limit", alike, program, program, limit=value)
                self.assert_wrong("limit", parted, program, program, limit=value)
        for value in (0, 1001, True):
            self.assert_wrong("limit", Language, program, kind="write", limit=value)
            self.assert_wrong("limit", parted, program, program, limit=value)

    def test_by_name(self):
        program = Program(HEAD)
        self.assertEqual(Language(limit=1000, kind="write", program=program), Language(program))
        self.assertIs(alike(limit=3, other=program, one=program), True)
        self.assertIsNone(parted(limit=3, other=program, one=program))


class PartedTest(AlikeTest):
    def test_the_kind_and_the_least_history(self):
        gated = Program([("gate", "g", [("timer", "t")], [("ask", "pay", "t")]), ("await", "t", "x")], asks=PAY)
        past = Program([("past", "g", [("timer", "t")]), ("await", "t", "x")], asks=PAY)
        # past writes no mark and reads it; gated writes it.
        for one, other in ((gated, past), (past, gated)):
            self.assertEqual(parted(one, other), ("read", [GO, ("asked", "pay")]))
        timer = Program([("timer", "t"), ("await", "t", "x")])
        self.assertEqual(parted(timer, past), ("read", [GO, ("marked", "g"), ("set",)]))
        self.assertIs(alike(timer, past), False)
        # A write that is less than a read: past and gated differ in writing by [set] at once.
        same_read = Program([("gate", "g", [("timer", "t")], [("timer", "t")]), ("await", "t", "x")])
        reads_set = Language(same_read)
        self.assertIn([GO, ("set",)], reads_set)
        self.assertEqual(Language(past), reads_set)
        self.assertEqual(parted(same_read, past), ("write", [GO, ("marked", "g"), ("set",)]))
        self.assertEqual(parted(past, same_read), ("write", [GO, ("marked", "g"), ("set",)]))
        self.assertIs(alike(past, same_read), False)

    def test_a_write_before_a_read(self):
        """The first difference of what is written comes before that of what is read."""
        def program(kind, later):
            row = ("gate", "g", [], []) if kind == "gate" else ("past", "g", [])
            return Program([row] + HEAD + later)
        one, other = program("gate", []), program("past", HEAD)
        kind, history = parted(one, other)
        self.assertEqual((kind, history), ("write", [GO, ("marked", "g"), ("set",)]))
        # The least one of both kinds is told as read.
        told = parted(program("past", []), program("past", HEAD))
        self.assertEqual(told, ("read", [GO, ("marked", "g"), ("set",), ("rang", 0), ("ended", "done")]))
        told = parted(Program(HEAD), Program(HEAD + HEAD))
        self.assertEqual(told, ("read", [GO, ("set",), ("rang", 0), ("ended", "done")]))

    def test_fewer_turns_come_first(self):
        """What is written differs in the first turn of one input, what is read in the second turn of another one."""
        def program(row, last):
            return Program([("if", "in", "b", [row], [])] + HEAD + [("if", "in", "a", last, [])], inputs=("a", "b"))
        one, other = program(("gate", "g", [], []), []), program(("past", "g", []), [("end", "x")])
        self.assertEqual(parted(one, other), ("write", [("begin", "b"), ("marked", "g"), ("set",)]))
        self.assertEqual(parted(one, program(("gate", "g", [], []), [("end", "x")])), ("read", [("begin", "a"), ("set",), ("rang", 0), ("ended", "done")]))

    def test_numbers_as_the_history_has_them(self):
        rows = [("timer", "z"), ("drop", "z")] * 3 + HEAD
        told = parted(Program(rows), Program(rows + [("end", "x")]))
        begun = [GO] + [token for number in range(3) for token in (("set",), ("dropped", number))] + [("set",)]
        self.assertEqual(told, ("read", begun + [("rang", 3), ("ended", "done")]))


class AlikeSearchTest(Counted):
    """Against slow searches, for programs made by chance."""

    def test_programs_made_by_chance(self):
        for seed in range(100):
            chance = random.Random(seed)
            one = (round_program if seed % 5 == 0 else small_program)(chance, Program)
            other = changed_program(chance, one, InvalidProgram)
            with self.subTest(seed=seed):
                self.compare_pair(one, other)
        self.assert_seen("whole", "pair", "alike", "read", "write", "within", "not within")

    def aged_set(self, program, kind):
        """All histories, by age and in their order, with their standings; and whether there are no others."""
        levels, _, whole = all_histories(program, kind, 4, 40)
        return {tuple(by_age(history[:many]) for many in range(1, len(history) + 1)): (history, standing)
                for level in levels for history, standing in level}, whole, len(levels)

    def slow_table(self, histories):
        """The table of a finite set of histories that has the first turns of each; they are in their order."""
        behind = {(): []}
        for history in histories:
            behind[history] = []
            behind[history[:-1]].append(history)
        futures = {}
        for history in sorted(behind, key=len, reverse=True):
            futures[history] = tuple(sorted((other[-1], futures[other]) for other in behind[history]))
        classes, numbers = [()], {}
        for history in histories:
            if futures[history] not in numbers:
                numbers[futures[history]] = len(classes)
                classes.append(history)
        return tuple(tuple(sorted((other[-1], numbers[futures[other]]) for other in behind[history])) for history in classes)

    def compare_pair(self, one, other):
        sets = [(program, kind) + self.aged_set(program, kind) for program in (one, other) for kind in KINDS]
        try:
            languages = [Language(program, kind=kind) for program, kind, _, _, _ in sets]
        except LimitExceeded:
            return
        for language, (program, kind, histories, whole, most) in zip(languages, sets):
            for history in histories:
                self.assertIn(numbered([list(turn) for turn in history]), language)
            self.assert_least(language)
            if whole:
                self.see("whole")
                self.assertEqual(language.rows(), self.slow_table(histories))
                self.compare_standings(language, histories)
        if all(whole for _, _, _, whole, _ in sets):
            for number, first in enumerate(sets):
                for second_number, second in enumerate(sets):
                    self.compare_joined(languages[number], languages[second_number], first[2], second[2])
            self.compare_parted(one, other, sets)

    def compare_standings(self, language, histories):
        found = {}
        for history, (tokens, standing) in histories.items():
            number = language.class_of(tokens_of(tokens))
            found.setdefault(number, {})[standing] = True
        self.assertEqual([language.standings(k) for k in range(len(language))], [list(found.get(k, {})) for k in range(len(language))])

    def assert_least(self, language):
        """Numbered in the order of the least histories, and none of the classes the same as another."""
        table = language.rows()
        order = [0]
        for number in order:
            for turn, behind in table[number]:
                if behind not in order:
                    order.append(behind)
        self.assertEqual(order, list(range(len(table))))
        kinds = [tuple(turn for turn, _ in row) for row in table]
        while True:
            finer = [(kinds.index(kinds[k]), tuple(kinds.index(kinds[behind]) for _, behind in row)) for k, row in enumerate(table)]
            if len(set(finer)) == len(set(kinds)):
                break
            kinds = finer
        self.assertEqual(len(set(kinds[1:])), len(table) - 1)

    def in_order(self, histories):
        return sorted(histories, key=lambda history: (len(history), history))

    def compare_joined(self, first, second, ones, others):
        self.see("pair")
        both = self.in_order([history for history in ones if history in others])
        either = self.in_order({**ones, **others})
        self.assertEqual((first & second).rows(), self.slow_table(both))
        self.assertEqual((first | second).rows(), self.slow_table(either))
        self.assertEqual(first == second, set(ones) == set(others))
        self.assertEqual(first.within(second), set(ones) <= set(others))
        self.see("within" if set(ones) <= set(others) else "not within")

    def compare_parted(self, one, other, sets):
        found = []
        for kind in ("read", "write"):
            first, second = [some for _, of_kind, some, _, _ in sets if of_kind == kind]
            for history in set(first) ^ set(second):
                found.append((len(history), history, kind))
        expected = None
        if found:
            _, history, kind = min(found)
            expected = (kind, numbered([list(turn) for turn in history]))
        self.assertEqual(parted(one, other), expected)
        self.assertEqual(alike(one, other), not found)
        self.see("alike" if not found else expected[0])


if __name__ == "__main__":
    unittest.main()
