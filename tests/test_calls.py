"""The whole interface: its names and where they stand, calls by name, and the order of wrong arguments."""

import importlib
import inspect
import unittest

from openruns.alike import Language, alike, parted
from openruns.books import Book
from openruns.counts import history_at, how_many, place_of
from openruns.editions import Editions
from openruns.errors import InvalidArgument, InvalidHistory, InvalidProgram, LimitExceeded, NoRun, Taken
from openruns.gates import Edited, fewest, least_sets, safe_sets, why_not
from openruns.house import House
from openruns.outlook import Outlook
from openruns.over import is_table, parting, table, taking
from openruns.programs import Program
from openruns.reading import aged, check, cut, good_turns, numbered, read, resume
from openruns.runs import Run
from openruns.texts import history_text, program_text, read_history, read_program
from tests.helpers import Raises

# For each module, its functions and its classes with their methods, and their parameters.
INTERFACE = {
    "programs": {
        "Program": "(rows, *, asks=None, signals=None, inputs=('go',))",
        "Program.rows": "(self)", "Program.asks": "(self)", "Program.signals": "(self)", "Program.inputs": "(self)", "Program.paths": "(self)",
        "Program.row_at": "(self, path)", "Program.names": "(self)", "Program.with_rows": "(self, path, rows)",
    },
    "runs": {
        "Run": "(program, word, notes=())", "Run.outer": "(self)", "Run.tell": "(self, token, notes=())", "Run.__call__": "(self, token, notes=())",
        "Run.history": "(self)", "Run.standing": "(self)", "Run.fork": "(self)",
    },
    "reading": {
        "check": "(history)", "cut": "(history)", "aged": "(history)", "numbered": "(turns)", "read": "(program, history)",
        "good_turns": "(program, history)", "resume": "(program, history)",
    },
    "books": {
        "Book": "(program, *, kind='write', limit=1000)", "Book.standings": "(self)", "Book.least_history": "(self, standing)",
        "Book.turns_of": "(self, standing)", "Book.step": "(self, standing, token, notes=())", "Book.falls": "(self)", "Book.stuck": "(self)",
        "Book.trapped": "(self)", "Book.unused_paths": "(self)",
    },
    "outlook": {
        "Outlook": "(program, *, kind='write', limit=1000)", "Outlook.soonest": "(self, standing)", "Outlook.rank": "(self, standing)",
        "Outlook.longest_open": "(self)", "Outlook.ring": "(self)",
    },
    "counts": {
        "how_many": "(program, turns, *, kind='read')", "history_at": "(program, turns, place, *, kind='read')", "place_of": "(program, history, *, kind='read')",
    },
    "texts": {"program_text": "(program)", "read_program": "(text)", "history_text": "(history)", "read_history": "(text)"},
    "over": {
        "parting": "(old, new, *, ended=False, limit=10000)", "taking": "(old, new, *, ended=False, limit=10000)",
        "table": "(old, new, *, kind='write', ended=False, limit=10000)", "is_table": "(old, new, value, *, kind='write', ended=False)",
    },
    "alike": {
        "Histories.rows": "(self)", "Histories.within": "(self, other)", "Histories.class_of": "(self, history)", "Histories.standings": "(self, k)",
        "Language": "(program, *, kind='read', limit=1000)", "alike": "(one, other, *, limit=1000)", "parted": "(one, other, *, limit=1000)",
    },
    "gates": {
        "Edited": "(rows, *, asks=None, signals=None, inputs=('go',))", "Edited.ids": "(self)", "Edited.plain": "(self)", "Edited.cut": "(self, ids)",
        "safe_sets": "(edited, *, ended=False, limit=10000)", "least_sets": "(edited, *, ended=False, limit=10000)",
        "fewest": "(edited, *, ended=False, limit=10000)", "why_not": "(edited, ids, *, ended=False, limit=10000)",
    },
    "editions": {
        "Editions": "(programs)", "Editions.programs": "(self)", "Editions.first_break": "(self, *, since=0, limit=10000)",
        "Editions.nodes": "(self, *, since=0, limit=10000)", "Editions.authors": "(self, history)", "Editions.safe_since": "(self, program, *, limit=10000)",
        "Editions.retired": "(self, id_word, *, row='past')",
    },
    "house": {
        "House": "(program)", "House.deploy": "(self, program)", "House.begin": "(self, name, word, notes=())", "House.tell": "(self, name, token, notes=())",
        "House.past": "(self, name)", "House.tail": "(self, name)", "House.names": "(self)", "House.still": "(self)", "House.again": "(self, name, notes=())",
        "House.rewind": "(self, name, turns)", "House.take_out": "(self, name)", "House.trial": "(self, program)", "House.outlook": "(self, program, deeds=())",
    },
}

# What the classes define for signs, len, with and the like.
SIGNS = {
    "programs.Program": ["__len__", "__eq__", "__ne__"], "runs.Run": ["__call__", "over"], "books.Book": ["__len__", "__contains__"],
    "alike.Histories": ["__len__", "__getitem__", "__contains__", "__eq__", "__and__", "__or__"], "editions.Editions": ["__len__", "__add__"],
    "house.House": ["edition", "__setitem__", "__getitem__", "__contains__", "__len__"], "house.Trial": ["__enter__", "__exit__"],
}

HEAD = [("timer", "t"), ("await", "t", "x")]
PROGRAM = Program(HEAD + [("gate", "g", [], [])], signals={"s": (1, ("a",))})
BEGUN = [("begin", "go"), ("set",)]
BOOK = Book(PROGRAM)
WAITING = BOOK.standings()[0]
LANGUAGE = Language(PROGRAM)
EDITED = Edited(HEAD + [("edit", "e", [], [])])
EDITIONS = Editions([PROGRAM])
TEXT = program_text(PROGRAM)


def wrong(part):
    return (InvalidArgument, {"part": part})


HISTORY = (InvalidHistory, {"at": -1})
ASKS, SIGNALS, INPUTS, ROWS = [(InvalidProgram, {"part": part, "path": ()}) for part in ("asks", "signals", "inputs", "rows")]


def house(still=False):
    told = House(Program(HEAD + [("await", "u", "x")], signals={"s": (1, ("a",))}))
    told["one"] = "go"
    if still:
        told.tell("one", ("rang", 0))
    return told


def again_house():
    told = House(Program([("anew", "in")]))
    told["one"] = "go"
    return told


# For each call: how to get it, and for each argument in the order of the interface its name, a right value, a wrong one and what that raises.
CALLS = [
    (lambda: Program, [("asks", {}, 1, ASKS), ("signals", {}, 1, SIGNALS), ("inputs", ("a",), 1, INPUTS), ("rows", [], 1, ROWS)]),
    (lambda: PROGRAM.row_at, [("path", (0,), (9,), wrong("path"))]),
    (lambda: PROGRAM.with_rows, [("path", (0,), (9,), wrong("path")), ("rows", [], (), wrong("rows"))]),
    (lambda: Run, [("program", PROGRAM, 1, wrong("program")), ("word", "go", "no", wrong("word")), ("notes", [], 1, wrong("notes"))]),
    (lambda: Run(PROGRAM, "go").tell, [("token", ("rang", 0), ("rang", 1), wrong("token")), ("notes", (), 1, wrong("notes"))]),
    (lambda: Run(PROGRAM, "go"), [("token", ("rang", 0), ("rang", 1), wrong("token")), ("notes", (), 1, wrong("notes"))]),
    (lambda: check, [("history", BEGUN, 1, HISTORY)]), (lambda: cut, [("history", BEGUN, 1, HISTORY)]), (lambda: aged, [("history", BEGUN, 1, HISTORY)]),
    (lambda: numbered, [("turns", [BEGUN], 1, wrong("turns"))]),
    (lambda: read, [("program", PROGRAM, 1, wrong("program")), ("history", BEGUN, 1, HISTORY)]),
    (lambda: good_turns, [("program", PROGRAM, 1, wrong("program")), ("history", BEGUN, 1, HISTORY)]),
    (lambda: resume, [("program", PROGRAM, 1, wrong("program")), ("history", BEGUN, 1, HISTORY)]),
    (lambda: Book, [("program", PROGRAM, 1, wrong("program")), ("kind", "read", 1, wrong("kind")), ("limit", 1000, 0, wrong("limit"))]),
    (lambda: Outlook, [("program", PROGRAM, 1, wrong("program")), ("kind", "read", 1, wrong("kind")), ("limit", 1000, 0, wrong("limit"))]),
    (lambda: BOOK.least_history, [("standing", WAITING, 1, wrong("standing"))]),
    (lambda: BOOK.turns_of, [("standing", WAITING, 1, wrong("standing"))]),
    (lambda: BOOK.step, [("standing", WAITING, 1, wrong("standing")), ("token", ("rang", 0), 1, wrong("token")), ("notes", [], 1, wrong("notes"))]),
    (lambda: Outlook(PROGRAM).soonest, [("standing", WAITING, 1, wrong("standing"))]),
    (lambda: Outlook(PROGRAM).rank, [("standing", WAITING, 1, wrong("standing"))]),
    (lambda: how_many, [("program", PROGRAM, 1, wrong("program")), ("turns", 1, 0, wrong("turns")), ("kind", "write", 1, wrong("kind"))]),
    (lambda: history_at, [("program", PROGRAM, 1, wrong("program")), ("turns", 1, 0, wrong("turns")), ("place", 0, -1, wrong("place")),
                          ("kind", "write", 1, wrong("kind"))]),
    (lambda: place_of, [("program", PROGRAM, 1, wrong("program")), ("history", BEGUN, 1, HISTORY), ("kind", "write", 1, wrong("kind"))]),
    (lambda: program_text, [("program", PROGRAM, 1, wrong("program"))]), (lambda: read_program, [("text", TEXT, 1, wrong("text"))]),
    (lambda: history_text, [("history", BEGUN, 1, HISTORY)]), (lambda: read_history, [("text", "begin go", 1, wrong("text"))]),
    (lambda: parting, [("old", PROGRAM, 1, wrong("old")), ("new", PROGRAM, 1, wrong("new")), ("ended", True, 1, wrong("ended")), ("limit", 1000, 0, wrong("limit"))]),
    (lambda: taking, [("old", PROGRAM, 1, wrong("old")), ("new", PROGRAM, 1, wrong("new")), ("ended", True, 1, wrong("ended")), ("limit", 1000, 0, wrong("limit"))]),
    (lambda: table, [("old", PROGRAM, 1, wrong("old")), ("new", PROGRAM, 1, wrong("new")), ("kind", "read", 1, wrong("kind")), ("ended", True, 1, wrong("ended")),
                     ("limit", 1000, 0, wrong("limit"))]),
    (lambda: is_table, [("old", PROGRAM, 1, wrong("old")), ("new", PROGRAM, 1, wrong("new")), ("kind", "read", 1, wrong("kind")), ("ended", True, 1, wrong("ended"))]),
    (lambda: LANGUAGE.within, [("other", LANGUAGE, 1, wrong("other"))]), (lambda: LANGUAGE.class_of, [("history", BEGUN, 1, HISTORY)]),
    (lambda: LANGUAGE.standings, [("k", 0, -1, wrong("k"))]),
    (lambda: Language, [("program", PROGRAM, 1, wrong("program")), ("kind", "write", 1, wrong("kind")), ("limit", 1000, 0, wrong("limit"))]),
    (lambda: alike, [("one", PROGRAM, 1, wrong("one")), ("other", PROGRAM, 1, wrong("other")), ("limit", 1000, 0, wrong("limit"))]),
    (lambda: parted, [("one", PROGRAM, 1, wrong("one")), ("other", PROGRAM, 1, wrong("other")), ("limit", 1000, 0, wrong("limit"))]),
    (lambda: Edited, [("asks", {}, 1, ASKS), ("signals", {}, 1, SIGNALS), ("inputs", ("a",), 1, INPUTS), ("rows", [], 1, ROWS)]),
    (lambda: EDITED.cut, [("ids", ["e"], ["f"], wrong("ids"))]),
    (lambda: why_not, [("edited", EDITED, PROGRAM, wrong("edited")), ("ids", ["e"], ["f"], wrong("ids")), ("ended", True, 1, wrong("ended")),
                       ("limit", 1000, 0, wrong("limit"))]),
    (lambda: Editions, [("programs", [PROGRAM], [], wrong("programs"))]),
    (lambda: EDITIONS.first_break, [("since", 0, 1, wrong("since")), ("limit", 1000, 0, wrong("limit"))]),
    (lambda: EDITIONS.nodes, [("since", 0, 1, wrong("since")), ("limit", 1000, 0, wrong("limit"))]),
    (lambda: EDITIONS.authors, [("history", BEGUN, 1, HISTORY)]),
    (lambda: EDITIONS.safe_since, [("program", PROGRAM, 1, wrong("program")), ("limit", 1000, 0, wrong("limit"))]),
    (lambda: EDITIONS.retired, [("id_word", "g", "h", wrong("id_word")), ("row", "part", 1, wrong("row"))]),
    (lambda: House, [("program", PROGRAM, 1, wrong("program"))]), (lambda: house().deploy, [("program", PROGRAM, 1, wrong("program"))]),
    (lambda: house().trial, [("program", PROGRAM, 1, wrong("program"))]),
    (lambda: house().begin, [("name", "two", "Two", wrong("name")), ("word", "go", "no", wrong("word")), ("notes", [], 1, wrong("notes"))]),
    (lambda: house().begin, [("name", "two", "one", (Taken, {"name": "one"})), ("word", "go", "no", wrong("word")), ("notes", [], 1, wrong("notes"))]),
    (lambda: house().tell, [("name", "one", 1, (NoRun, {"name": 1})), ("token", ("rang", 0), ("rang", 1), wrong("token")), ("notes", [], 1, wrong("notes"))]),
    (lambda: house(still=True).tell, [("name", "one", 1, (NoRun, {"name": 1})), ("token", ("signal", "z", "z"), ("rang", 0), wrong("token")),
                                      ("notes", [], 1, wrong("notes"))]),
    (lambda: house().past, [("name", "one", 1, (NoRun, {"name": 1}))]), (lambda: house().tail, [("name", "one", 1, (NoRun, {"name": 1}))]),
    (lambda: again_house().again, [("name", "one", 1, (NoRun, {"name": 1})), ("notes", [], 1, wrong("notes"))]),
    (lambda: house().rewind, [("name", "one", 1, (NoRun, {"name": 1})), ("turns", 1, 2, wrong("turns"))]),
    (lambda: house().take_out, [("name", "one", 1, (NoRun, {"name": 1}))]),
    (lambda: house().outlook, [("program", PROGRAM, 1, wrong("program")), ("deeds", [], 1, wrong("deeds"))]),
] + [(lambda call=call: call, [("edited", EDITED, PROGRAM, wrong("edited")), ("ended", True, 1, wrong("ended")), ("limit", 1000, 0, wrong("limit"))])
     for call in (safe_sets, least_sets, fewest)]

# Further arguments, of which no value is wrong.
ANY = {is_table: {"value": None}}


class InterfaceTest(unittest.TestCase):
    def test_names_and_parameters(self):
        for module, names in INTERFACE.items():
            told = importlib.import_module("openruns." + module)
            for name, parameters in names.items():
                with self.subTest(module=module, name=name):
                    value = told
                    for part in name.split("."):
                        value = vars(value)[part]
                    self.assertEqual(str(inspect.signature(value)), parameters)
                    self.assertEqual(value.__module__, "openruns." + module)

    def test_signs(self):
        for name, methods in SIGNS.items():
            module, kind = name.split(".")
            told = getattr(importlib.import_module("openruns." + module), kind)
            self.assertEqual(told.__module__, "openruns." + module)
            for method in methods:
                self.assertIn(method, vars(told), name)

    def test_bases(self):
        self.assertTrue(issubclass(Outlook, Book))
        self.assertEqual([base.__name__ for base in Language.__bases__], ["Histories"])


class CallsTest(Raises, unittest.TestCase):
    def test_by_name(self):
        for get, arguments in CALLS:
            with self.subTest(call=repr(get()), names=[name for name, *_ in arguments]):
                named = {name: value for name, value, _, _ in arguments}
                get()(**named, **self.more(get()))
                get()(**dict(reversed(list(named.items()))), **self.more(get()))

    def test_wrong_arguments_in_their_order(self):
        """The first wrong one is told, whatever stands behind it."""
        for get, arguments in CALLS:
            for first in range(len(arguments)):
                with self.subTest(call=repr(get()), wrong=arguments[first][0]):
                    named = {name: value for name, value, _, _ in arguments[:first]}
                    named.update({name: value for name, _, value, _ in arguments[first:]})
                    error, attributes = arguments[first][3]
                    self.assert_raises(error, attributes, get(), **named, **self.more(get()))
                    named.update({name: value for name, value, _, _ in arguments[first + 1:]})
                    self.assert_raises(error, attributes, get(), **named, **self.more(get()))

    def test_by_place(self):
        """Those ahead of a bare star are passed by place as well, those behind it by name alone."""
        for get, arguments in CALLS:
            with self.subTest(call=repr(get()), names=[name for name, *_ in arguments]):
                values = {name: value for name, value, _, _ in arguments}
                values.update(self.more(get()))
                parameters = inspect.signature(get()).parameters.values()
                placed = [values[parameter.name] for parameter in parameters if parameter.kind == parameter.POSITIONAL_OR_KEYWORD]
                named = {parameter.name: values[parameter.name] for parameter in parameters if parameter.kind == parameter.KEYWORD_ONLY}
                get()(*placed, **named)
                if named:
                    self.assertRaises(TypeError, get(), *placed, *named.values())

    def more(self, call):
        return ANY.get(call, {}) if inspect.isfunction(call) else {}

    def test_limits_come_behind_all_checks(self):
        program = Program([("note", "x", ("a", "b"))] + HEAD)
        edited = Edited([("note", "x", ("a", "b"))] + HEAD)
        for call in (lambda: Book(program, limit=2), lambda: Outlook(program, limit=2), lambda: Language(program, limit=2), lambda: alike(program, program, limit=2),
                     lambda: parted(program, program, limit=2), lambda: parting(program, program, ended=True, limit=2), lambda: taking(program, program, ended=True, limit=2),
                     lambda: table(program, program, ended=True, limit=2), lambda: safe_sets(edited, ended=True, limit=2), lambda: fewest(edited, ended=True, limit=2)):
            self.assert_raises(LimitExceeded, {"limit": 2}, call)


if __name__ == "__main__":
    unittest.main()
