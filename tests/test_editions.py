"""Editions, [10.1] to [10.6], and what the general rules say of them."""

import copy
import random
import unittest

from openruns.editions import Editions
from openruns.errors import InvalidArgument, InvalidHistory, InvalidProgram, LimitExceeded
from openruns.programs import Program
from openruns.reading import read
from tests.helpers import Raises, all_odd_values
from tests.made import changed_program, round_program, small_program
from tests.model import ModelBreaks, ModelFalls, ModelNote, ReadingWorld, World, read_world
from tests.search import note_words
from tests.test_search import Counted, tokens_of

HEAD = [("timer", "t"), ("await", "t", "x")]
GATE = ("gate", "g", [("ask", "pay", "u")], [("timer", "u")])
ASKS = {"pay": ("yes",)}
OLD = Program(HEAD + [("timer", "u"), ("await", "u", "x")])
NEW = Program(HEAD + [GATE, ("await", "u", "x")], asks=ASKS)
GO = ("begin", "go")
BEGUN = [GO, ("set",)]
ROUND = Program([("loop", HEAD)])


def round_history(turns):
    history = list(BEGUN)
    for number in range(turns - 1):
        history += [("rang", number), ("set",)]
    return history


class EditionsTest(Raises, unittest.TestCase):
    def assert_wrong(self, part, call, *args, **named):
        self.assert_raises(InvalidArgument, {"part": part}, call, *args, **named)


class ProgramsTest(EditionsTest):
    def test_one_to_four_programs(self):
        for many in range(1, 5):
            for programs in ([OLD] * many, (OLD,) * many):
                editions = Editions(programs)
                self.assertEqual((len(editions), editions.programs()), (many, [OLD] * many))
                self.assertIs(type(editions.programs()), list)
        self.assertEqual(len(Editions(programs=[OLD])), 1)
        for value in all_odd_values() + [[OLD] * 5, (OLD,) * 5, [OLD, None], [None, OLD], {OLD.inputs(): OLD}, OLD, Editions([OLD])]:
            if value != [Program([])] and not (isinstance(value, (list, tuple)) and value and all(isinstance(item, Program) for item in value) and len(value) < 5):
                self.assert_wrong("programs", Editions, value)

    def test_one_more(self):
        editions = Editions([OLD])
        more = editions + NEW
        self.assertIs(type(more), Editions)
        self.assertEqual((editions.programs(), more.programs()), ([OLD], [OLD, NEW]))
        four = more + NEW + OLD
        self.assertEqual(four.programs(), [OLD, NEW, NEW, OLD])
        self.assert_wrong("programs", lambda: four + NEW)
        for value in all_odd_values():
            if not isinstance(value, Program):
                self.assert_wrong("programs", lambda: editions + value)
                self.assert_wrong("programs", lambda: four + value)

    def test_copies(self):
        programs = [OLD, NEW]
        editions = Editions(programs)
        programs.clear()
        editions.programs().clear()
        self.assertEqual(editions.programs(), [OLD, NEW])


class AuthorsTest(EditionsTest):
    def test_switch_lists(self):
        same = Editions([ROUND] * 3)
        self.assertEqual(same.authors(round_history(1)), [((0, 0),), ((0, 1),), ((0, 2),)])
        self.assertEqual(same.authors(history=round_history(2)), [((0, 0),), ((0, 0), (1, 1)), ((0, 0), (1, 2)), ((0, 1),), ((0, 1), (1, 2)), ((0, 2),)])
        self.assertEqual(len(same.authors(round_history(3))), 3 + 3 * 2 + 1)
        self.assertIn(((0, 0), (1, 1), (2, 2)), same.authors(round_history(3)))
        self.assertEqual(Editions([ROUND]).authors(round_history(40)), [((0, 0),)])

    def test_what_edition_wrote_what(self):
        editions = Editions([OLD, NEW, NEW])
        timed = BEGUN + [("rang", 0), ("set",)]
        marked = BEGUN + [("rang", 0), ("marked", "g"), ("asked", "pay")]
        self.assertEqual(editions.authors(timed), [((0, 0),)])
        self.assertEqual(editions.authors(marked), [((0, 0), (1, 1)), ((0, 0), (1, 2)), ((0, 1),), ((0, 1), (1, 2)), ((0, 2),)])
        # The later editions read the old rows, but write none of them; the end is the same for all.
        ended = timed + [("rang", 1), ("ended", "done")]
        self.assertEqual(editions.authors(ended), [((0, 0),), ((0, 0), (2, 1)), ((0, 0), (2, 2))])
        self.assertEqual(editions.authors(marked + [("answer", 1, "yes"), ("ended", "done")])[-1], ((0, 2),))
        for history in ([GO], BEGUN + [("set",)], [("begin", "no"), ("set",)], BEGUN + [("rang", 0), ("marked", "g")], timed + [("rang", 1), ("set",)]):
            self.assertEqual(editions.authors(history), [])

    def test_editions_that_are_passed_over(self):
        """The one in between reads nothing of it, and is not asked."""
        editions = Editions([ROUND, Program([("ask", "pay", "a")], asks=ASKS), ROUND])
        self.assertEqual(editions.authors(round_history(2)), [((0, 0),), ((0, 0), (1, 2)), ((0, 2),)])

    def test_editions_do_not_go_back(self):
        editions = Editions([NEW, OLD])
        timed = BEGUN + [("rang", 0), ("set",)]
        self.assertEqual(editions.authors(BEGUN), [((0, 0),), ((0, 1),)])
        self.assertEqual(editions.authors(timed), [((0, 0), (1, 1)), ((0, 1),)])
        self.assertEqual(editions.authors(BEGUN + [("rang", 0), ("marked", "g"), ("asked", "pay")]), [((0, 0),)])
        self.assertEqual(editions.authors(BEGUN + [("rang", 0), ("marked", "g"), ("asked", "pay"), ("answer", 1, "yes"), ("ended", "done")]), [((0, 0),)])

    def test_notes(self):
        rows = [("note", "x", ("a", "b")), ("note", "y", ("a", "c"))] + HEAD
        editions = Editions([Program(rows), Program([("note", "x", ("b",)), ("note", "y", ("c",))] + HEAD)])
        for one, other, expected in (("a", "a", [((0, 0),)]), ("b", "c", [((0, 0),), ((0, 1),)]), ("c", "a", []), ("b", "b", [])):
            self.assertEqual(editions.authors([GO, ("noted", one), ("noted", other), ("set",)]), expected)
        self.assertEqual(editions.authors([GO, ("noted", "b"), ("set",)]), [])

    def test_turns_that_fall(self):
        editions = Editions([Program([("await", "t", "x")]), Program([("timer", "t"), ("timer", "t")])])
        self.assertEqual(editions.authors([GO]), [])
        self.assertEqual(editions.authors([GO, ("set",)]), [])

    def test_long_histories(self):
        editions = Editions([ROUND] * 4)
        told = editions.authors(round_history(40))
        self.assertEqual(len(told), 4 + 6 * 39 + 4 * (39 * 38 // 2) + 39 * 38 * 37 // 6)
        self.assertEqual(told, sorted(told))
        for turns in (41, 60, 9999):
            self.assert_raises(LimitExceeded, {"limit": 40}, editions.authors, round_history(turns))
        self.assert_raises(InvalidHistory, {"at": 80}, editions.authors, round_history(40) + [("rang", 0)])
        # 41 turns of which the first one is nobody's.
        self.assert_raises(LimitExceeded, {"limit": 40}, editions.authors, [("begin", "no")] + [("signal", "s", "a")] * 40)
        self.assertEqual(editions.authors([("begin", "no")] + [("signal", "s", "a")] * 39), [])

    def test_wrong_histories(self):
        for value in all_odd_values():
            self.assert_raises(InvalidHistory, {"at": 0 if isinstance(value, list) else -1}, Editions([OLD]).authors, value)

    def test_arguments_do_not_change(self):
        history = round_history(3)
        before = copy.deepcopy(history)
        told = Editions([ROUND] * 2).authors(history)
        told.clear()
        self.assertEqual(history, before)
        self.assertEqual(len(Editions([ROUND] * 2).authors(history)), 4)


class BreakTest(EditionsTest):
    def test_the_road_of_a_gate(self):
        """Each row of the table: which editions begin runs that break, when the old rows go and when the marks go."""
        editions = Editions([OLD, NEW])
        self.assertIsNone(editions.first_break())
        past, part = editions.retired("g"), editions.retired("g", row="part")
        self.assertEqual(past, Program(HEAD + [("past", "g", [("ask", "pay", "u")]), ("await", "u", "x")], asks=ASKS))
        self.assertEqual(part, Program(HEAD + [("part", [("ask", "pay", "u")]), ("await", "u", "x")], asks=ASKS))
        self.assertEqual((editions.safe_since(past), editions.safe_since(part)), (1, 2))
        broken = (BEGUN + [("rang", 0), ("set",)], ((0, 0), (2, 2)), 3, "other")
        self.assertEqual((editions + past).first_break(), broken)
        self.assertIsNone((editions + past).first_break(since=1))
        self.assertEqual((editions + part).first_break(), (BEGUN + [("rang", 0), ("marked", "g"), ("asked", "pay")], ((0, 0), (1, 1), (2, 2)), 3, "other"))
        self.assertEqual((editions + part).first_break(since=1), (BEGUN + [("rang", 0), ("marked", "g"), ("asked", "pay")], ((0, 1), (2, 2)), 3, "other"))
        self.assertIsNone((editions + part).first_break(since=2))
        # Behind past rows, part rows come next: nothing writes marks any more.
        later = Editions([NEW, past])
        self.assertEqual(later.safe_since(later.retired("g", row="part")), 1)
        self.assertEqual(Editions([OLD, NEW, past]).safe_since(part), 2)

    def test_switches_are_the_least_ones(self):
        ended = Program([("timer", "t"), ("await", "t", "x"), ("timer", "t"), ("await", "t", "x"), ("timer", "t"), ("await", "t", "x")])
        short = Program([("timer", "t"), ("await", "t", "x"), ("timer", "t"), ("await", "t", "x"), ("ask", "pay", "t"), ("await", "t", "x")], asks=ASKS)
        history = round_history(3)
        at = len(history) - 1
        self.assertEqual(Editions([ended, short]).first_break(), (history, ((0, 0), (3, 1)), at, "other"))
        self.assertEqual(Editions([ended, ended, short]).first_break(), (history, ((0, 0), (1, 1), (3, 2)), at, "other"))
        self.assertEqual(Editions([ended, ended, ended, short]).first_break(), (history, ((0, 0), (1, 1), (2, 2), (3, 3)), at, "other"))
        self.assertEqual(Editions([ended, ended, short, short]).first_break(), (history, ((0, 0), (1, 1), (3, 2)), at, "other"))
        self.assertEqual(Editions([ended, ended, short, short]).first_break(since=1), (history, ((0, 1), (3, 2)), at, "other"))
        # short may take over, and write up to there, but then no later one may be broken but those behind it.
        self.assertEqual(Editions([ended, short, ended]).first_break(),
                         (round_history(3)[:-1] + [("asked", "pay")], ((0, 0), (1, 1), (3, 2)), at, "other"))
        self.assertEqual(Editions([short, ended, short]).first_break(),
                         (round_history(3)[:-1] + [("asked", "pay")], ((0, 0), (3, 1)), at, "other"))
        self.assertEqual(Editions([short, ended, short]).first_break(since=1), (history, ((0, 1), (3, 2)), at, "other"))

    def test_editions_that_are_passed_over(self):
        """The second edition alone could break; the third one may be taken first."""
        other = Program([("ask", "pay", "a"), ("await", "a", "x")], asks=ASKS)
        self.assertEqual(Editions([ROUND, other]).first_break(), (BEGUN, ((0, 0), (1, 1)), 1, "other"))
        self.assertEqual(Editions([ROUND, other, ROUND]).first_break(), ([GO, ("asked", "pay")], ((0, 1), (1, 2)), 1, "other"))
        self.assertEqual(Editions([ROUND, other, ROUND]).first_break(since=1), ([GO, ("asked", "pay")], ((0, 1), (1, 2)), 1, "other"))
        self.assertIsNone(Editions([ROUND, other, ROUND]).first_break(since=2))
        self.assertIsNone(Editions([other]).first_break())

    def test_ended_histories_do_not_break(self):
        self.assertIsNone(Editions([Program(HEAD), Program(HEAD + [("end", "x")])]).first_break())
        self.assertIsNone(Editions([Program([]), Program(HEAD)]).first_break())
        self.assertEqual(Editions([Program([]), Program(HEAD)]).nodes()[0][1], (1,))

    def test_words_and_indexes(self):
        signals = {"s": (2, ("a",))}
        taking = Program(HEAD + [("take", "s", "x")] * 3, signals=signals)
        less = Program(HEAD + [("take", "s", "x")] * 3, signals={"s": (1, ("a",))})
        self.assertEqual(Editions([taking, less]).first_break(), (BEGUN + [("signal", "s", "a")] * 2, ((0, 0), (3, 1)), 3, "full"))
        self.assertEqual(Editions([OLD, Program([("timer", "u")] + HEAD)]).first_break()[2:], (2, "more"))
        self.assertEqual(Editions([OLD, Program([("timer", "t")] + HEAD)]).first_break()[2:], (0, "falls"))
        self.assertEqual(Editions([OLD, Program(HEAD, inputs=("on",))]).first_break()[2:], (0, "word"))
        self.assertEqual(Editions([OLD, Program([("take", "s", "x")], signals=signals)]).first_break()[2:], (1, "fewer"))

    def test_histories_are_new(self):
        editions = Editions([OLD, NEW]) + Editions([OLD, NEW]).retired("g")
        editions.first_break()[0].clear()
        self.assertEqual(editions.first_break()[0], BEGUN + [("rang", 0), ("set",)])
        nodes = Editions([OLD, NEW]).nodes()
        nodes.clear()
        self.assertEqual(len(Editions([OLD, NEW]).nodes()), 3)


class NodesTest(EditionsTest):
    def test_nodes(self):
        editions = Editions([OLD, NEW])
        timed, marked = BEGUN + [("rang", 0), ("set",)], BEGUN + [("rang", 0), ("marked", "g"), ("asked", "pay")]
        first = (tuple(read(program, BEGUN)[1] for program in (OLD, NEW)), (0, 1))
        both = (tuple(read(program, timed)[1] for program in (OLD, NEW)), (0,))
        late = (("broken", read(NEW, marked)[1]), (1,))
        self.assertEqual(editions.nodes(), [first, late, both])
        self.assertEqual(editions.nodes(since=0), [first, late, both])
        self.assertEqual(editions.nodes(since=1), [(first[0], (1,)), late])
        self.assertIsNone((editions + editions.retired("g")).nodes())
        nodes = (editions + editions.retired("g")).nodes(since=1)
        self.assertEqual([(standings.count("broken"), writers) for standings, writers in nodes], [(0, (1, 2)), (2, (2,)), (1, (1,))])

    def test_what_the_list_promises(self):
        """No edition behind the least writer is broken, also where elder ones are."""
        nodes = Editions([OLD, NEW, NEW]).nodes()
        self.assertTrue(any("broken" in standings for standings, writers in nodes))
        for standings, writers in nodes:
            self.assertNotIn("broken", standings[writers[0]:])

    def test_no_nodes(self):
        falls = Program([("await", "t", "x")])
        self.assertEqual(Editions([falls]).nodes(), [])
        self.assertEqual(Editions([falls, OLD]).nodes(since=1)[0][0][0], "broken")
        self.assertEqual(Editions([Program([]), Program([])]).nodes(), [])

    def test_runs_that_go_round(self):
        self.assertEqual(len(Editions([ROUND] * 4).nodes()), 2)
        self.assertEqual([writers for _, writers in Editions([ROUND] * 4).nodes(since=2)], [(2, 3)] * 2)


class LimitTest(EditionsTest):
    def test_all_nodes_where_there_is_no_break(self):
        editions = Editions([OLD, NEW])
        for since, many in ((0, 3), (1, 2)):
            self.assertIsNone(editions.first_break(since=since, limit=many))
            self.assertEqual(len(editions.nodes(since=since, limit=many)), many)
            for limit in range(1, many):
                self.assert_raises(LimitExceeded, {"limit": limit}, editions.first_break, since=since, limit=limit)
                self.assert_raises(LimitExceeded, {"limit": limit}, editions.nodes, since=since, limit=limit)

    def test_nodes_ahead_of_the_least_break(self):
        """Three nodes with one turn; the break comes with two."""
        rows = [("note", "y", ("a", "b", "c"))] + HEAD
        editions = Editions([Program(rows + HEAD), Program(rows + [("ask", "pay", "a"), ("await", "a", "x")], asks=ASKS)])
        history = [GO, ("noted", "a"), ("set",), ("rang", 0), ("asked", "pay")]
        told = editions.first_break(limit=3)
        self.assertEqual(told, ([GO, ("noted", "a"), ("set",), ("rang", 0), ("set",)], ((0, 0), (2, 1)), 4, "other"))
        self.assertNotEqual(told[0], history)
        self.assertIsNone(editions.nodes(limit=3))
        for limit in (1, 2):
            self.assert_raises(LimitExceeded, {"limit": limit}, editions.first_break, limit=limit)
            self.assert_raises(LimitExceeded, {"limit": limit}, editions.nodes, limit=limit)

    def test_safe_since(self):
        editions = Editions([OLD, NEW])
        past, part = editions.retired("g"), editions.retired("g", row="part")
        # From edition 0 on, there is a break with two turns, behind one node; from 1 on, there are three nodes.
        self.assertEqual(editions.safe_since(past, limit=3), 1)
        for limit in (1, 2):
            self.assert_raises(LimitExceeded, {"limit": limit}, editions.safe_since, past, limit=limit)
        self.assertEqual(editions.safe_since(part, limit=2), 2)
        self.assert_raises(LimitExceeded, {"limit": 1}, editions.safe_since, part, limit=1)
        other = Program([("note", "x", ("a", "b"))] + HEAD)
        self.assertEqual(Editions([OLD]).safe_since(other, limit=2), 1)
        self.assert_raises(LimitExceeded, {"limit": 1}, Editions([OLD]).safe_since, other, limit=1)


class SafeTest(EditionsTest):
    def test_four_editions(self):
        other = Program([("ask", "pay", "a"), ("await", "a", "x")], asks=ASKS)
        self.assertEqual(Editions([ROUND] * 4).safe_since(ROUND), 0)
        self.assertEqual(Editions([ROUND] * 4).safe_since(other), 4)
        self.assertEqual(Editions([other, ROUND, ROUND, ROUND]).safe_since(ROUND), 1)
        self.assertEqual(Editions([ROUND, ROUND, other, other]).safe_since(program=other), 2)
        self.assertEqual(Editions([ROUND]).safe_since(other), 1)
        self.assertEqual(Editions([ROUND]).safe_since(ROUND), 0)

    def test_retired(self):
        gate = ("gate", "g", [("gate", "g", [("drop", "t")], [("drop", "u")]), ("past", "g", [("drop", "s")])], [("gate", "h", [], [])])
        rows = [("loop", [gate, ("leave",)]), ("past", "g", [gate]), ("gate", "h", [gate], [("past", "g", [])]), ("both", ([gate], []))]
        editions = Editions([OLD, Program(rows, asks=ASKS, inputs=("a", "go"), signals={"s": (2, ("a",))})])
        inner_past = ("past", "g", [("past", "g", [("drop", "t")]), ("past", "g", [("drop", "s")])])
        inner_part = ("part", [("part", [("drop", "t")]), ("part", [("drop", "s")])])
        for row, inner, shell in (("past", inner_past, lambda inside: ("past", "g", inside)), ("part", inner_part, lambda inside: ("part", inside))):
            expected = [("loop", [inner, ("leave",)]), shell([inner]), ("gate", "h", [inner], [shell([])]), ("both", ([inner], []))]
            told = editions.retired("g", row=row)
            self.assertEqual(told, Program(expected, asks=ASKS, inputs=("a", "go"), signals={"s": (2, ("a",))}))
        self.assertEqual(editions.retired("g"), editions.retired(row="past", id_word="g"))
        self.assertEqual(editions.retired("h").row_at((2,)), ("past", "h", [gate[:3] + ([("past", "h", [])],)]))
        self.assertEqual(Editions([NEW, Program([("past", "g", [])])]).retired("g"), Program([("past", "g", [])]))
        self.assertEqual(editions.programs()[1].rows(), rows)

    def test_wrong_arguments_of_retired(self):
        editions = Editions([NEW, Program([("gate", "h", [], []), ("past", "i", [])])])
        for value in all_odd_values() + ["g", "x", ("h",), ["h"], b"h"]:
            self.assert_wrong("id_word", editions.retired, value)
            self.assert_wrong("id_word", editions.retired, value, row=None)
            self.assert_wrong("row", editions.retired, "h", row=value)
            self.assert_wrong("row", editions.retired, "i", row=value)
        self.assert_wrong("row", editions.retired, "h", row="gate")


class ArgumentsTest(EditionsTest):
    def test_wrong_arguments_in_their_order(self):
        editions = Editions([OLD, NEW])
        for value in all_odd_values() + [-1, 2, True, False]:
            for call in (editions.first_break, editions.nodes):
                if type(value) is not int or not 0 <= value <= 1:
                    self.assert_wrong("since", call, since=value, limit=None)
                if type(value) is not int or not 1 <= value <= 10000:
                    self.assert_wrong("limit", call, since=1, limit=value)
            if not isinstance(value, Program):
                self.assert_wrong("program", editions.safe_since, value, limit=None)
            if type(value) is not int or not 1 <= value <= 10000:
                self.assert_wrong("limit", editions.safe_since, OLD, limit=value)
        self.assert_wrong("limit", editions.nodes, limit=10001)
        self.assert_wrong("since", Editions([OLD]).first_break, since=1)
        self.assertIsNone(Editions([OLD] * 4).first_break(since=3, limit=10000))


class LiveBehind(ReadingWorld):
    """A world that has read a history and goes on with live turns."""

    live = False

    def kind(self):
        return World if self.live else ReadingWorld

    def write(self, command):
        self.kind().write(self, command)

    def do_note(self, path, slot, words):
        yield from self.kind().do_note(self, path, slot, words)

    def do_gate(self, path, name, new, old):
        yield from self.kind().do_gate(self, path, name, new, old)

    def do_past(self, path, name, rows):
        yield from self.kind().do_past(self, path, name, rows)


def world_behind(program, history):
    world = read_world(program, history, LiveBehind)
    world.live = True
    return world


def live_turns(program, history):
    """All live turns behind a history that is read; none if it is not read."""
    try:
        outer = world_behind(program, history).outer() if history else [("begin", word) for word in program.inputs()]
    except ModelBreaks:
        return []
    turns = []
    for token in outer:
        tries = [()]
        while tries:
            notes = tries.pop()
            world = world_behind(program, history)
            before = len(world.history)
            try:
                world.turn(token, notes)
                turns.append(tuple(world.history[before:]))
            except ModelFalls:
                pass
            except ModelNote as note:
                if note.args[0] == len(notes):
                    tries += [notes + (word,) for word in note_words(program)]
    return turns


def told_by(program, history):
    try:
        return ("reads", read_world(program, history).standing())
    except ModelBreaks as breach:
        return ("breaks",) + breach.args


class EditionsSearchTest(Counted):
    """Against slow searches, for editions made by chance."""

    def test_editions_made_by_chance(self):
        for seed in range(150):
            chance = random.Random(seed)
            programs = [(round_program if seed % 4 == 0 else small_program)(chance, Program)]
            while len(programs) < 2 + seed % 3:
                programs.append(changed_program(chance, programs[-1], InvalidProgram))
            with self.subTest(seed=seed):
                for since in range(len(programs)):
                    self.compare(programs, since)
        self.assert_seen("break", "no break", "limit", "several", "broken", "no authors", *[("since", since) for since in range(3)])

    def levels(self, programs, since):
        """For each number of turns, the histories with their switch lists; and whether there are no others."""
        levels, level = [], {(): [()]}
        while len(levels) < 4:
            following = {}
            for history, lists in level.items():
                lives = [live_turns(program, history) for program in programs]
                for switches in lists:
                    last = switches[-1][1] if switches else since
                    for edition in range(last, len(programs)):
                        more = switches + ((len(history), edition),) if not switches or edition > last else switches
                        for turn in lives[edition]:
                            following.setdefault(history + (turn,), []).append(more)
            if len(following) > 30 or not following:
                return levels, not following
            level = {history: sorted(set(following[history])) for history in sorted(following)}
            levels.append(level)
        return levels, False

    def compare(self, programs, since):
        editions = Editions(programs)
        levels, whole = self.levels(programs, since)
        nodes = {}
        self.see(("since", since))
        for level in levels:
            if since == 0:
                self.compare_authors(editions, level)
            if len(nodes) > 1:
                self.see("limit")
                with self.assertRaises(LimitExceeded):
                    editions.first_break(since=since, limit=len(nodes) - 1)
                with self.assertRaises(LimitExceeded):
                    editions.nodes(since=since, limit=len(nodes) - 1)
            below = max(len(nodes), 1)
            for history, lists in level.items():
                if history[-1][-1][0] in ("ended", "anew"):
                    continue
                told = [told_by(program, history) for program in programs]
                broken = [switches + ((len(history), edition),) for switches in lists for edition in range(switches[-1][1] + 1, len(programs))
                          if told[edition][0] == "breaks"]
                if broken:
                    self.see("break")
                    expected = (tokens_of(history), min(broken)) + told[min(broken)[-1][1]][1:]
                    self.assertEqual(editions.first_break(since=since, limit=below), expected)
                    self.assertIsNone(editions.nodes(since=since, limit=below))
                    return
                standings = tuple(one[1] if one[0] == "reads" else "broken" for one in told)
                self.see("broken", "broken" in standings)
                self.see("several", len(lists) > 1)
                nodes[(standings, tuple(sorted({switches[-1][1] for switches in lists})))] = True
        if whole:
            self.see("no break")
            self.assertIsNone(editions.first_break(since=since, limit=max(len(nodes), 1)))
            self.assertEqual(editions.nodes(since=since, limit=max(len(nodes), 1)), list(nodes))
            if len(nodes) > 1:
                with self.assertRaises(LimitExceeded):
                    editions.nodes(since=since, limit=len(nodes) - 1)

    def compare_authors(self, editions, level):
        for history, lists in level.items():
            self.assertEqual(editions.authors(tokens_of(history)), lists)
            other = history[:-1] + (history[-1][:-1],)
            if other[-1] and other not in level:
                self.see("no authors")
                self.assertEqual(editions.authors(tokens_of(other)), [])


if __name__ == "__main__":
    unittest.main()
