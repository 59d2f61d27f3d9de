"""Books and outlooks against slow searches, for programs made by chance."""

import random
import unittest

from openruns.books import Book
from openruns.errors import LimitExceeded
from openruns.outlook import Outlook
from openruns.programs import Program
from openruns.reading import aged, cut, numbered, read, resume
from openruns.runs import Run
from tests.made import round_program, small_program
from tests.search import all_histories, by_age, world_behind

KINDS = ("write", "read")
FALL_WORDS = ("busy", "free", "long", "notes")


def tokens_of(history):
    return [token for turn in history for token in turn]


class Counted(unittest.TestCase):
    """Counts what was seen, so that a test that sees nothing is noticed."""

    def setUp(self):
        self.seen = {}

    def see(self, what, many=1):
        self.seen[what] = self.seen.get(what, 0) + many

    def assert_seen(self, *whats):
        for what in whats:
            self.assertGreater(self.seen.get(what, 0), 3, what)


class BookSearchTest(Counted):
    def test_books_of_programs_made_by_chance(self):
        for seed in range(240):
            program = small_program(random.Random(seed), Program)
            for kind in KINDS:
                with self.subTest(seed=seed, kind=kind):
                    self.compare(program, kind)
        whats = [("falls", kind, word) for kind in KINDS for word in FALL_WORDS if word != "long"]
        whats += [("stuck", kind) for kind in KINDS] + [("whole", kind) for kind in KINDS]
        self.assert_seen("unused", "all used", "broken", *whats)

    def compare(self, program, kind):
        try:
            book = Book(program, kind=kind)
        except LimitExceeded:
            self.see("limit")
            return
        levels, found, whole = all_histories(program, kind, 5, 40)
        least = {}
        for level in levels:
            for history, standing in level:
                least.setdefault(standing, history)
        standings = list(least)
        self.assertEqual(book.standings()[:len(standings)], standings)
        for standing, history in least.items():
            self.assertEqual(book.least_history(standing), tokens_of(history))
            self.assertIn(standing, book)
        for history, (kept, fallen) in found.items():
            self.compare_turns(book, program, kind, levels, history, kept)
        self.compare_falls(book, found, whole)
        if whole:
            self.see(("whole", kind))
            self.assertEqual(len(book), len(standings))
            self.compare_unused(book, program, kind, levels)

    def compare_turns(self, book, program, kind, levels, history, kept):
        """The turns of each standing are those behind each history that has it."""
        if not history:
            return
        told = read(program, tokens_of(history))
        self.assertEqual(told[0], "reads")
        expected = sorted((list(by_age(history + (turn,))), standing) for turn, standing in kept)
        self.assertEqual(book.turns_of(told[1]), expected)
        self.assertEqual(told[1] in book.stuck(), not kept and told[1][0] == "at")
        self.see(("stuck" if not kept and told[1][0] == "at" else "goes on", kind))

    def compare_falls(self, book, found, whole):
        """The least fall with each word, of those that the slow search has seen."""
        expected = {}
        for history in sorted(found, key=lambda history: (len(history), history)):
            for turn, word, path in found[history][1]:
                expected.setdefault(word, (word, path, tokens_of(history), turn[0], list(turn[1:])))
        told = {entry[0]: entry for entry in book.falls()}
        self.assertEqual([entry[0] for entry in book.falls()], [word for word in FALL_WORDS if word in told])
        for word, entry in expected.items():
            self.assertEqual(told[word], entry)
            self.see(("falls", book.search.kind, word))
        if whole:
            self.assertEqual(sorted(told), sorted(expected))
        for _, path, history, token, commands in told.values():
            self.check_fall(book.search.program, history, token, commands)

    def compare_unused(self, book, program, kind, levels):
        done = set()
        for level in levels:
            for history, _ in level:
                done |= world_behind(program, history, kind).done
        self.assertEqual(book.unused_paths(), [path for path in program.paths() if path not in done])
        self.see("unused" if book.unused_paths() else "all used")

    def check_fall(self, program, history, token, commands):
        at = len(history)
        told = read(program, history + [token] + commands)
        self.assertEqual(told, ("breaks", at, "falls"))
        self.see("broken")


class RunSearchTest(Counted):
    def test_runs_and_readings_meet_in_the_book(self):
        """Written histories are read, with the same standing, and go on likewise."""
        for seed in range(300):
            chance = random.Random(seed)
            program = small_program(chance, Program)
            try:
                books = {kind: Book(program, kind=kind) for kind in KINDS}
            except LimitExceeded:
                continue
            with self.subTest(seed=seed):
                for kind in KINDS:
                    self.play(chance, program, books, kind)
        self.assert_seen(("turn", "write"), ("turn", "read"), ("step", "read"), ("over", "read"), ("over", "write"))

    def play(self, chance, program, books, kind):
        book = books[kind]
        firsts = [standing for standing in book.standings() if len(cut(book.least_history(standing))) == 1]
        if not firsts:
            return
        standing = chance.choice(firsts)
        history = book.least_history(standing)
        for _ in range(12):
            turns = book.turns_of(standing)
            if not turns:
                self.see(("over" if standing[0] != "at" else "stuck", kind))
                break
            turn, standing = chance.choice(turns)
            history = numbered(aged(history) + [turn])
            self.assertEqual(read(program, history), ("reads", standing))
            self.assertTrue(kind == "read" or standing in books["read"])
            self.see(("turn", kind))
            self.step(book, resume(program, history), standing, kind)

    def step(self, book, run, standing, kind):
        self.assertEqual(run.standing(), standing)
        before = run.history()
        for token in run.outer():
            for notes in ((), ("no", "no", "no")):
                told = self.told(run.fork().tell, token, notes)
                name = list(by_age((*[tuple(turn) for turn in cut(before)], (token,))))[0]
                self.assertEqual(self.told_step(book, standing, name, notes), told[0])
                if told[0][0] == "kept":
                    self.assertIn(told[0][1], book)
                    self.see(("step", kind))

    def told(self, tell, token, notes):
        run = tell.__self__
        try:
            run.tell(token, notes)
        except LookupError as error:
            return (type(error).__name__, vars(error)),
        return ("kept", run.standing()),

    def told_step(self, book, standing, token, notes):
        try:
            return ("kept", book.step(standing, token, notes))
        except LookupError as error:
            return (type(error).__name__, vars(error))


class OutlookSearchTest(Counted):
    def test_outlooks_of_programs_made_by_chance(self):
        for seed in range(700):
            program = [small_program, round_program][seed % 2](random.Random(seed), Program)
            for kind in KINDS:
                try:
                    outlook = Outlook(program, kind=kind, limit=60)
                except LimitExceeded:
                    continue
                with self.subTest(seed=seed, kind=kind):
                    self.compare(outlook)
        self.assert_seen("ring", "no ring", "trapped", "rank", "no rank", "open", "long ring", "late ring")

    def compare(self, outlook):
        behind = {standing: [other for _, other in outlook.turns_of(standing)] for standing in outlook.standings()}
        soonest = self.soonest(behind)
        self.assertEqual({standing: outlook.soonest(standing) for standing in behind}, soonest)
        self.assertEqual(outlook.trapped(), [standing for standing in behind if soonest[standing] is None])
        ranks = {}
        for standing in behind:
            self.assertEqual(outlook.rank(standing), self.rank(behind, standing, ranks, []))
            self.see("no rank" if outlook.rank(standing) is None else "rank")
            self.see("trapped" if soonest[standing] is None else "free")
        self.compare_open(outlook, behind)

    def soonest(self, behind):
        soonest = {standing: None if standing[0] == "at" else 0 for standing in behind}
        for _ in behind:
            for standing in behind:
                known = [soonest[other] + 1 for other in behind[standing] if soonest[other] is not None]
                if known and (soonest[standing] is None or min(known) < soonest[standing]):
                    soonest[standing] = min(known)
        return soonest

    def rank(self, behind, standing, ranks, above):
        """By its words: None if any sequence of turns comes back to itself or gets stuck."""
        if standing[0] != "at":
            return 0
        if standing in above:
            return None
        if standing not in ranks:
            told = [self.rank(behind, other, ranks, above + [standing]) for other in behind[standing]]
            ranks[standing] = None if None in told or not told else 1 + max(told)
        return ranks[standing]

    def compare_open(self, outlook, behind):
        """All open histories, level by level, until there is none or the book's own bound is passed."""
        level = sorted([(cut(outlook.least_history(one)), [one]) for one in self.firsts(outlook)])
        many = 0
        while any(trail[-1][0] == "at" for _, trail in level) and many <= len(behind):
            many += 1
            rings = [(turns, trail.index(trail[-1]) + 1) for turns, trail in level if trail.index(trail[-1]) + 1 < many]
            if rings:
                turns, first = min(rings)
                self.assertEqual(outlook.ring(), ([token for turn in turns for token in turn], first))
                self.assertIsNone(outlook.longest_open())
                self.see("ring")
                self.see("late ring" if first > 1 else "ring at once")
                self.see("long ring" if many - first > 1 else "short ring")
                return
            level = self.longer(outlook, level)
            if len(level) > 4000:
                return
        self.assertEqual(outlook.longest_open(), many)
        self.assertIsNone(outlook.ring())
        self.see("no ring")
        self.see("open" if many else "none open")

    def firsts(self, outlook):
        """All begin turns; different ones always lead to different histories, though maybe to one standing."""
        return [one for one in outlook.standings() if len(cut(outlook.least_history(one))) == 1]

    def longer(self, outlook, level):
        longer = []
        for turns, trail in level:
            history = [token for turn in turns for token in turn]
            for turn, standing in outlook.turns_of(trail[-1]):
                longer.append((cut(numbered(aged(history) + [turn])), trail + [standing]))
        return longer


class KindSearchTest(Counted):
    def test_without_gates_all_that_is_read_is_written(self):
        for seed in range(300):
            program = small_program(random.Random(seed), Program)
            try:
                write, reads = [Book(program, kind=kind) for kind in KINDS]
            except LimitExceeded:
                continue
            with self.subTest(seed=seed):
                self.assertEqual([one for one in write.standings() if one not in reads], [])
                if not program.names()["gates"]:
                    self.see("no gates")
                    self.assertEqual(write.standings(), reads.standings())
                    self.assertEqual(write.falls(), reads.falls())
                    self.assertEqual(write.unused_paths(), reads.unused_paths())
                elif len(reads) > len(write):
                    self.see("gates")
        self.assert_seen("gates", "no gates")

    def test_a_run_is_read_with_its_standing(self):
        for seed in range(200):
            chance = random.Random(seed)
            program = small_program(chance, Program)
            try:
                run = Run(program, program.inputs()[0], ("no", "no", "no"))
                while not run.over and len(run.history()) < 40 and run.outer():
                    self.assertEqual(read(program, run.history()), ("reads", run.standing()))
                    run.tell(chance.choice(run.outer()), ("no", "no", "no"))
            except LookupError:
                self.see("gave up")
            else:
                self.assertEqual(read(program, run.history()), ("reads", run.standing()))
                self.see("to the end")
        self.assert_seen("gave up", "to the end")


if __name__ == "__main__":
    unittest.main()
