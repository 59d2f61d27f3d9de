"""The examples of the interface, as they are printed there."""

import ast
import doctest
import pathlib
import unittest

from openruns import errors

PROGRAMS = """
>>> from openruns.programs import Program
>>> Program([("put", "x", "a"), ("loop", [("leave",), ("end", "y")])]).paths()
[(0,), (1,), (1, 0, 0), (1, 0, 1)]

>>> from openruns.programs import Program
>>> Program([("loop", [("both", ([("leave",)], []))])])
raises InvalidProgram
"""

RUNS = """
>>> from openruns.programs import Program
>>> from openruns.runs import Run
>>> rows = [("ask", "pay", "a"), ("timer", "t"), ("first", ("a", "t"), "x"), ("drop", "a"), ("end", "x")]
>>> run = Run(Program(rows, asks={"pay": ("no", "yes")}), "go")
>>> run.outer()
[('answer', 0, 'no'), ('answer', 0, 'yes'), ('rang', 1)]
>>> run(("rang", 1))
[('dropped', 0), ('ended', 't')]
>>> run.standing()
('over', 't')
"""

READING = """
>>> from openruns.programs import Program
>>> from openruns.reading import read
>>> program = Program([("timer", "t"), ("gate", "g", [("timer", "u")], []), ("await", "t", "x")])
>>> read(program, [("begin", "go"), ("set",), ("marked", "g"), ("set",)])
('reads', ('at', ((2,),), (('in', 'go'), ('x', 'none')), (('t', 'timer', 0), ('u', 'timer', 1)), (), (('g', True),)))

>>> from openruns.programs import Program
>>> from openruns.reading import read
>>> program = Program([("timer", "t"), ("gate", "g", [("timer", "u")], []), ("await", "t", "x")])
>>> read(program, [("begin", "go"), ("set",), ("set",), ("rang", 0), ("ended", "done")])
('breaks', 2, 'fewer')
"""

# The line with the two standings is too long to stand here in one piece.
BOOKS = """
>>> from openruns.programs import Program
>>> from openruns.books import Book
>>> book = Book(Program([("timer", "t"), ("loop", [("await", "t", "x"), ("timer", "t")])]))
>>> book.standings()
[%s, %s]
>>> book.least_history(book.standings()[1])
[('begin', 'go'), ('set',), ('rang', 0), ('set',)]
>>> book.trapped() == book.standings()
True
""" % tuple("('at', ((1, 0, 0),), (('in', 'go'), ('x', '" + word + "')), (('t', 'timer', 0),), (), ())" for word in ("none", "rang"))

OUTLOOK = """
>>> from openruns.programs import Program
>>> from openruns.outlook import Outlook
>>> outlook = Outlook(Program([("timer", "t"), ("loop", [("await", "t", "x"), ("timer", "t")])]))
>>> outlook.ring()
([('begin', 'go'), ('set',), ('rang', 0), ('set',), ('rang', 1), ('set',)], 2)
"""

COUNTS = """
>>> from openruns.programs import Program
>>> from openruns.counts import history_at, how_many
>>> program = Program([("ask", "pay", "a"), ("await", "a", "x"), ("end", "x")], asks={"pay": ("no", "yes")})
>>> how_many(program, 2, kind="write")
2
>>> history_at(program, 2, 1)
[('begin', 'go'), ('asked', 'pay'), ('answer', 0, 'yes'), ('ended', 'yes')]
"""

TEXTS = r"""
>>> from openruns.texts import history_text
>>> history_text([("begin", "go"), ("set",), ("rang", 0), ("ended", "done")])
'begin go\n  set\nrang 0\n  ended done'
"""

OVER = """
>>> from openruns.programs import Program
>>> from openruns.over import parting
>>> head = [("timer", "t"), ("await", "t", "x")]
>>> tail = [("await", "u", "x")]
>>> old = Program(head + [("timer", "u")] + tail)
>>> new = Program(head + [("timer", "v"), ("timer", "u")] + tail)
>>> parting(old, new)
([('begin', 'go'), ('set',), ('rang', 0), ('set',)], 4, 'more')
>>> gated = Program(head + [("gate", "g", [("timer", "v")], []), ("timer", "u")] + tail)
>>> parting(old, gated)
>>> parting(old, Program(head + [("timer", "u")]))
([('begin', 'go'), ('set',), ('rang', 0), ('set',)], 4, 'more')
>>> parting(Program(head), old)
>>> parting(Program(head), old, ended=True)
([('begin', 'go'), ('set',), ('rang', 0), ('ended', 'done')], 3, 'other')
"""

ALIKE = """
>>> from openruns.programs import Program
>>> from openruns.alike import Language, parted
>>> one = Program([("timer", "t"), ("await", "t", "x"), ("put", "x", "no"), ("end", "x")])
>>> Language(one).rows()
((((('begin', 'go'), ('set',)), 1),), (((('rang', 0), ('ended', 'no')), 2),), ())
>>> other = Program([("timer", "t"), ("await", "t", "x"), ("end", "x")])
>>> parted(one, other)
('read', [('begin', 'go'), ('set',), ('rang', 0), ('ended', 'no')])
"""

GATES = """
>>> from openruns.gates import Edited, safe_sets
>>> one = ("edit", "one", [("put", "s", "new")], [("put", "s", "old")])
>>> two = ("edit", "two", [("if", "s", "new", [("ask", "pay", "a")], [("ask", "tell", "a")])], [("ask", "pay", "a")])
>>> asks = {"pay": ("yes",), "tell": ("yes",)}
>>> edited = Edited([one, two, ("await", "a", "x")], asks=asks)
>>> safe_sets(edited)
[(), ('two',), ('one', 'two')]
"""

EDITIONS = """
>>> from openruns.programs import Program
>>> from openruns.editions import Editions
>>> head = [("timer", "t"), ("await", "t", "x")]
>>> gate = ("gate", "g", [("ask", "pay", "u")], [("timer", "u")])
>>> old = Program(head + [("timer", "u"), ("await", "u", "x")])
>>> new = Program(head + [gate, ("await", "u", "x")], asks={"pay": ("yes",)})
>>> editions = Editions([old, new])
>>> editions.first_break()
>>> editions.safe_since(editions.retired("g"))
1
>>> editions.safe_since(editions.retired("g", row="part"))
2
>>> (editions + editions.retired("g")).first_break()
([('begin', 'go'), ('set',), ('rang', 0), ('set',)], ((0, 0), (2, 2)), 3, 'other')
"""

HOUSE = """
>>> from openruns.programs import Program
>>> from openruns.house import House
>>> old = Program([("timer", "t"), ("await", "t", "x"), ("await", "u", "x")])
>>> new = Program([("timer", "t"), ("await", "t", "x"), ("end", "x")])
>>> house = House(old)
>>> house["one"] = "go"
>>> house.tell("one", ("rang", 0))
>>> house.still()
[('one', ('falls', 'free'))]
>>> house.outlook(new)
[]
>>> house.edition = new
>>> house["one"]
[('begin', 'go'), ('set',), ('rang', 0), ('ended', 'rang')]
"""


class ExamplesTest(unittest.TestCase):
    def check(self, text):
        for session in text.strip().split("\n\n"):
            self.check_session(session.split("\n"))

    def check_session(self, lines):
        names = {}
        for at, line in enumerate(lines):
            if line.startswith(">>> "):
                expected = lines[at + 1] if at + 1 < len(lines) and not lines[at + 1].startswith(">>> ") else None
                self.check_step(line[4:], expected, names)

    def check_step(self, source, expected, names):
        is_expression = isinstance(ast.parse(source).body[0], ast.Expr)
        if expected is not None and expected.startswith("raises "):
            with self.assertRaises(getattr(errors, expected[7:])):
                eval(source, names)
        elif is_expression:
            value = eval(source, names)
            self.assertEqual(None if value is None else repr(value), expected, source)
        else:
            exec(source, names)

    def test_programs(self):
        self.check(PROGRAMS)

    def test_runs(self):
        self.check(RUNS)

    def test_reading(self):
        self.check(READING)

    def test_books(self):
        self.check(BOOKS)

    def test_outlook(self):
        self.check(OUTLOOK)

    def test_counts(self):
        self.check(COUNTS)

    def test_texts(self):
        self.check(TEXTS)

    def test_over(self):
        self.check(OVER)

    def test_alike(self):
        self.check(ALIKE)

    def test_gates(self):
        self.check(GATES)

    def test_editions(self):
        self.check(EDITIONS)

    def test_house(self):
        self.check(HOUSE)

    def test_the_readme(self):
        """Its blocks go on from one to the next."""
        readme = pathlib.Path(__file__).parent.parent / "README.md"
        text = readme.read_text(encoding="utf-8").replace("```", "")
        test = doctest.DocTestParser().get_doctest(text, {}, "README", None, None)
        self.assertGreater(len(test.examples), 20)
        runner = doctest.DocTestRunner(verbose=False)
        self.assertEqual(runner.run(test, out=lambda told: None).failed, 0)

    def test_a_wrong_example_is_noticed(self):
        for text in (RUNS.replace("('over', 't')", "('over', 'x')"), PROGRAMS.replace("(1,), ", "")):
            self.assertRaises(AssertionError, self.check, text)


if __name__ == "__main__":
    unittest.main()
