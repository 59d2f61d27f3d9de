"""Texts of programs and of histories, [4.1] to [4.5], and what the general rules say of them."""

import random
import unittest

from openruns.errors import InvalidArgument, InvalidHistory, InvalidProgram, InvalidText
from openruns.programs import Program
from openruns.reading import check
from openruns.texts import history_text, program_text, read_history, read_program
from tests.helpers import Raises, all_odd_values
from tests.made import made_program, small_program

ASKS = {"pay": ("yes", "no"), "ask": ("z",)}
SIGNALS = {"stop": (3, ("b", "a")), "call": (1, ("x",))}

# Each form of a row, and what is written for it at level 1.
ROWS = [
    (("ask", "pay", "a"), ["ask pay a"]),
    (("timer", "a"), ["timer a"]),
    (("await", "a", "x"), ["await a x"]),
    (("first", ("c", "a", "b"), "x"), ["first c a b x"]),
    (("first", ("a",), "x"), ["first a x"]),
    (("drop", "a"), ["drop a"]),
    (("take", "stop", "x"), ["take stop x"]),
    (("note", "x", ("z", "y", "a")), ["note x z y a"]),
    (("put", "x", "in"), ["put x in"]),
    (("end", "in"), ["end in"]),
    (("anew", "x"), ["anew x"]),
    (("loop", [("leave",)]), ["loop", "  leave"]),
    (("loop", []), ["loop"]),
    (("part", [("put", "x", "a"), ("drop", "b")]), ["part", "  put x a", "  drop b"]),
    (("past", "g", [("timer", "a")]), ["past g", "  timer a"]),
    (("past", "g", []), ["past g"]),
    (("if", "x", "a", [("drop", "a")], [("drop", "b")]), ["if x a", "  drop a", "else", "  drop b"]),
    (("if", "in", "a", [], []), ["if in a", "else"]),
    (("gate", "g", [("drop", "a")], []), ["gate g", "  drop a", "old"]),
    (("gate", "g", [], [("drop", "b")]), ["gate g", "old", "  drop b"]),
    (("both", ([("drop", "a")], [], [("drop", "b"), ("drop", "c")])),
     ["both", "  side", "    drop a", "  side", "  side", "    drop b", "    drop c"]),
    (("both", ([], [])), ["both", "  side", "  side"]),
]

HEAD = "ask ask z\nask pay yes no\nsignal call 1 x\nsignal stop 3 b a\ninputs go\nrows"

# The document's own example.
EXAMPLE = """ask pay yes no
inputs go
rows
  ask pay a
  await a s
  if s yes
    timer a
  else"""


def program_of(rows, **more):
    return Program(rows, **{"asks": ASKS, "signals": SIGNALS, **more})


def text_of(lines, level=1):
    return "\n".join([HEAD] + ["  " * level + line for line in lines])


class TextTest(Raises, unittest.TestCase):
    def assert_line(self, line, text, call=read_program):
        self.assert_raises(InvalidText, {"line": line}, call, text)

    def assert_invalid(self, part, path, text):
        self.assert_raises(InvalidProgram, {"part": part, "path": path}, read_program, text)


class ProgramTextTest(TextTest):
    def test_the_example_of_the_document(self):
        rows = [("ask", "pay", "a"), ("await", "a", "s"), ("if", "s", "yes", [("timer", "a")], [])]
        program = Program(rows, asks={"pay": ("yes", "no")}, inputs=("go",))
        self.assertEqual(program_text(program), EXAMPLE)
        self.assertEqual(read_program(EXAMPLE), program)

    def test_each_form_of_a_row(self):
        for row, lines in ROWS:
            with self.subTest(row=row):
                program = program_of([row])
                self.assertEqual(program_text(program), text_of(lines))
                self.assertEqual(read_program(text_of(lines)), program)

    def test_rows_at_several_depths(self):
        shells = [
            (lambda row: ("loop", [row]), ["loop"], 1), (lambda row: ("part", [row]), ["part"], 1),
            (lambda row: ("past", "h", [row]), ["past h"], 1), (lambda row: ("gate", "h", [], [row]), ["gate h", "old"], 1),
            (lambda row: ("if", "x", "a", [], [row]), ["if x a", "else"], 1),
            (lambda row: ("both", ([], [row])), ["both", "  side", "  side"], 2),
        ]
        for outer, outer_lines, outer_step in shells:
            for inner, inner_lines, inner_step in shells:
                for row, lines in ROWS:
                    program = program_of([outer(inner(row)), ("drop", "z")])
                    told = outer_lines + ["  " * outer_step + line for line in inner_lines]
                    told += ["  " * (outer_step + inner_step) + line for line in lines] + ["drop z"]
                    self.assertEqual(program_text(program), text_of(told))
                    self.assertEqual(read_program(text_of(told)), program)

    def test_heads(self):
        self.assertEqual(program_text(Program([])), "inputs go\nrows")
        self.assertEqual(program_text(program_of([])), HEAD)
        self.assertEqual(program_text(Program([], signals=SIGNALS, inputs=("b", "a", "c"))),
                         "signal call 1 x\nsignal stop 3 b a\ninputs b a c\nrows")
        self.assertEqual(program_text(Program([], asks={"b": ("a",), "a": ("d", "c", "b", "a"), "ab": ("x",)})),
                         "ask a d c b a\nask ab x\nask b a\ninputs go\nrows")
        for program in (Program([]), program_of([]), Program([], signals=SIGNALS), Program([], inputs=("b", "a"))):
            self.assertEqual(read_program(program_text(program)), program)

    def test_names_that_are_words_of_the_text(self):
        words = ["rows", "inputs", "signal", "ask", "else", "old"]
        asks = {word: ("side", "rows") for word in words}
        rows = [("ask", word, word) for word in words] + [("put", "else", "old"), ("part", [("put", "side", "both")])]
        program = Program(rows, asks=asks, signals={"rows": (2, ("else",))}, inputs=("rows", "inputs", "old"))
        self.assertEqual(read_program(program_text(program)), program)

    def test_the_order_of_a_dict_means_nothing(self):
        program = program_of([("drop", "a")])
        other = program_of([("drop", "a")], asks=dict(sorted(ASKS.items(), reverse=True)))
        self.assertEqual(program_text(program), program_text(other))

    def test_programs_at_the_limits(self):
        words = [letter * 8 for letter in "abcdefgh"]
        deepest = ("end", "in")
        for _ in range(4):
            deepest = ("both", ([deepest], [("put", words[0], "x")] if deepest == ("end", "in") else []))
        asks = {word: tuple(words[:4]) for word in words[:6]}
        signals = {word: (3, tuple(words[:3])) for word in words[:3]}
        rows = [deepest] + [("ask", words[k % 6], words[k % 6]) for k in range(46)]
        rows += [("past", word, []) for word in words[:6]]
        rows += [("note", words[0], tuple(words[:3])), ("first", tuple(words[:3]), words[1])]
        program = Program(rows, asks=asks, signals=signals, inputs=tuple(words[:3]))
        self.assertEqual(len(program), 60)
        self.assertEqual(read_program(program_text(program)), program)
        self.assertEqual(max(len(line) - len(line.lstrip()) for line in program_text(program).split("\n")), 18)

    def test_wrong_programs(self):
        for value in all_odd_values():
            if not isinstance(value, Program):
                self.assert_raises(InvalidArgument, {"part": "program"}, program_text, value)

    def test_programs_made_by_chance(self):
        for seed in range(300):
            for make in (made_program, small_program):
                program = make(random.Random(seed), Program)
                text = program_text(program)
                self.assertEqual(read_program(text), program)
                self.assertFalse(text.endswith("\n"))
                self.assertEqual(program_text(read_program(text)), text)


class ReadProgramTest(TextTest):
    def test_wrong_arguments(self):
        for value in all_odd_values():
            if not isinstance(value, str):
                self.assert_raises(InvalidArgument, {"part": "text"}, read_program, value)
                self.assert_raises(InvalidArgument, {"part": "text"}, read_history, value)

    def test_the_empty_text(self):
        self.assert_line(1, "")
        self.assert_line(1, "\n")
        self.assert_line(1, " ")
        self.assert_line(1, "\ninputs go\nrows")

    def test_lines_of_the_head(self):
        for line in ("ask", "ask pay", "ask pay ", "ask  pay yes", "ask pay  yes", "ask pay yes ", " ask pay yes", "  ask pay yes",
                     "asks pay yes", "ask Pay yes", "ask pay Yes", "ask pay toolongword", "ask toolongword a", "ask pay yes 1",
                     "ask pay yes\tno", "signal", "signal stop", "signal stop 1", "signal stop a", "signal stop a b",
                     "signal stop 10 a", "signal stop -1 a", "signal stop  1 a", "signal stop 1  a", "signal stop 1 a ",
                     "signal 1 stop a", "signal stop 1 A", "signal stop 1a a", "signal stop \u0661 a", "signal stop \u00b2 a",
                     "  signal stop 1 a", "signals stop 1 a", "inputs", "inputs ", "inputs  go", "inputs go ", " inputs go",
                     "inputs Go", "inputs 1", "input go", "", "  ", "rows", "else", "  ask pay a", "ask pay y\u00e9s", "inputs go\r"):
            self.assert_line(1, line + "\nrows")
            self.assert_line(2, "ask a b\n" + line + "\nrows")
            self.assert_line(2, "signal a 1 b\n" + line + "\nrows")

    def test_names_of_the_head_ascend(self):
        self.assert_line(2, "ask b x\nask a x\ninputs go\nrows")
        self.assert_line(2, "ask b x\nask b x\ninputs go\nrows")
        self.assert_line(3, "ask a x\nask b x\nask ab x\ninputs go\nrows")
        self.assert_line(2, "signal b 1 x\nsignal a 1 x\ninputs go\nrows")
        self.assert_line(2, "signal b 1 x\nsignal b 1 x\ninputs go\nrows")
        self.assert_line(2, "signal a 1 x\nask b x\ninputs go\nrows")
        self.assert_line(2, "inputs go\nask b x\nrows")
        self.assert_line(2, "inputs go\nsignal b 1 x\nrows")
        self.assert_line(2, "inputs go\ninputs go\nrows")
        self.assertEqual(read_program("ask b x\nsignal a 1 x\ninputs go\nrows").asks(), {"b": ("x",)})

    def test_the_line_of_the_rows(self):
        for line in (" rows", "rows ", "  rows", "row", "rows a", "Rows", "", "  drop a"):
            self.assert_line(2, "inputs go\n" + line)
            self.assert_line(2, "inputs go\n" + line + "\n  drop a")

    def test_missing_lines(self):
        self.assert_line(2, "inputs go")
        self.assert_line(2, "ask pay yes")
        self.assert_line(3, "ask pay yes\nsignal a 1 b")
        self.assert_line(4, "inputs go\nrows\n  if x a")
        self.assert_line(5, "inputs go\nrows\n  gate g\n    drop a")
        self.assert_line(6, "inputs go\nrows\n  gate g\n    if x a\n    else")
        self.assert_line(5, "inputs go\nrows\n  if x a\n    if x b")

    def test_each_line_of_a_row(self):
        start = "inputs go\nrows\n"
        for line in ("ask pay", "ask pay a b", "timer", "timer a b", "await a", "await a x y", "first x", "first", "drop", "drop a b",
                     "take stop", "take stop x y", "note x", "note", "put x", "put x a b", "leave x", "end", "end x y", "anew",
                     "anew x y", "loop x", "part x", "past", "past g h", "if x", "if x a b", "gate", "gate g h", "both a", "side",
                     "else", "old", "rows", "inputs go", "signal a 1 b", "drop  a", "drop a ", "drop A", "drop toolongword", "drop 1",
                     "Drop a", "drops a", "first a b 1", "note x a B", "edit g", "edit", "", "drop\ta", "drop a\r", "asked pay", "drop \u00e9"):
            self.assert_line(3, start + "  " + line)
            self.assert_line(4, start + "  drop a\n  " + line)
            self.assert_line(4, start + "  loop\n    " + line + "\n  drop a")
            self.assert_line(5, start + "  both\n    side\n      " + line)
            self.assert_line(3, start + "  " + line + "\n  nothing\n   x")

    def test_spaces(self):
        start = "inputs go\nrows\n"
        for spaces in range(30):
            if spaces != 2:
                self.assert_line(3, start + " " * spaces + "drop a")
            if spaces not in (2, 4):
                self.assert_line(4, start + "  loop\n" + " " * spaces + "drop a")
            if spaces not in (2, 4, 6):
                self.assert_line(5, start + "  part\n    part\n" + " " * spaces + "drop a")
            if spaces != 2:
                self.assert_line(4, start + "  if x a\n" + " " * spaces + "else")
                self.assert_line(4, start + "  gate g\n" + " " * spaces + "old")
            if spaces != 4:
                self.assert_line(4, start + "  both\n" + " " * spaces + "side")
        self.assert_line(4, start + "  drop a\n    drop b")
        self.assert_line(5, start + "  loop\n    drop a\n   drop b")

    def test_lines_between_the_lists_of_a_row(self):
        start = "inputs go\nrows\n"
        for line in ("drop a", "old", "else x", "else ", "side", "if x a", ""):
            self.assert_line(4, start + "  if x a\n  " + line)
        for line in ("drop a", "else", "old x", "old ", "gate g"):
            self.assert_line(4, start + "  gate g\n  " + line)
        self.assert_line(5, start + "  if x a\n  else\n  else")
        self.assert_line(5, start + "  gate g\n  old\n  old")
        self.assert_line(4, start + "  loop\n  else")
        self.assert_line(4, start + "  past g\n  old")
        self.assert_line(5, start + "  if x a\n    if x b\n  else\n    else")
        self.assert_line(6, start + "  if x a\n    drop a\n  else\n  old")
        self.assert_line(4, start + "  if x a\ndrop a")

    def test_lines_among_branches(self):
        start = "inputs go\nrows\n"
        for line in ("drop a", "else", "side a", "side ", "loop", ""):
            self.assert_line(4, start + "  both\n    " + line)
            self.assert_line(5, start + "  both\n    side\n    " + line)
            self.assert_line(6, start + "  both\n    side\n      drop a\n    " + line)
        self.assert_line(4, start + "  both\n  side")
        self.assert_line(5, start + "  both\n    side\n        drop a")
        self.assert_line(6, start + "  both\n    side\n      loop\n      side")

    def test_more_than_24_spaces(self):
        lines = ["  " * level + "part" for level in range(1, 13)]
        text = "\n".join(["inputs go", "rows"] + lines)
        self.assert_invalid("rows", (0, 0, 0, 0, 0, 0, 0, 0, 0), text)
        self.assert_line(15, text + "\n" + " " * 26 + "part")
        self.assert_line(15, text + "\n" + " " * 26 + "drop a\nwrong")
        both = "\n".join(["inputs go", "rows"] + lines[:-1] + [" " * 24 + "both"])
        self.assert_line(15, both + "\n" + " " * 26 + "side")
        choice = "\n".join(["inputs go", "rows"] + lines[:-1] + [" " * 24 + "if x a", " " * 24 + "else"])
        self.assert_invalid("rows", (0, 0, 0, 0, 0, 0, 0, 0, 0), choice)
        self.assert_line(16, choice + "\n" + " " * 26 + "drop a")

    def test_lines_behind_the_rows(self):
        for line in ("", " ", "drop a", "rows", "inputs go", "ask a b", "else"):
            self.assert_line(3, "inputs go\nrows\n" + line)
            self.assert_line(4, "inputs go\nrows\n  drop a\n" + line)
            self.assert_line(5, "inputs go\nrows\n  loop\n    leave\n" + line)
        self.assert_line(4, EXAMPLE.split("  ")[0] + "\n")
        self.assert_line(9, EXAMPLE + "\n")

    def test_other_conditions_come_behind_the_text(self):
        """[4.3]: what [1.8] asks for is asked when the whole text has been read."""
        start = "inputs go\nrows\n"
        for part, path, text in [
            ("asks", (), "ask pay yes yes\ninputs go\nrows"), ("asks", (), "ask pay a b c d e\ninputs go\nrows"),
            ("asks", (), "".join(f"ask {letter} x\n" for letter in "abcdefg") + "inputs go\nrows"),
            ("signals", (), "signal s 0 a\ninputs go\nrows"), ("signals", (), "signal s 4 a\ninputs go\nrows"),
            ("signals", (), "signal s 1 a a\ninputs go\nrows"), ("signals", (), "signal s 1 a b c d\ninputs go\nrows"),
            ("signals", (), "".join(f"signal {letter} 1 x\n" for letter in "abcd") + "inputs go\nrows"),
            ("inputs", (), "inputs a a\nrows"), ("inputs", (), "inputs a b c d\nrows"),
            ("rows", (0,), start + "  both"), ("rows", (0,), start + "  both\n    side"),
            ("rows", (0,), start + "  both" + "\n    side" * 4), ("rows", (1,), start + "  drop a\n  leave"),
            ("rows", (0,), start + "  ask pay a"), ("rows", (0,), start + "  take s x"), ("rows", (0,), start + "  put in a"),
            ("rows", (0,), start + "  first a a x"), ("rows", (0,), start + "  first a b c d x"),
            ("rows", (0,), start + "  note x a b c d"), ("rows", (0, 0, 0), start + "  loop\n    await a in"),
            ("size", (), start + "  drop a\n" * 60 + "  drop a"), ("labels", (), start + "\n".join("  drop " + x for x in "abcdefg")),
            ("slots", (), start + "\n".join(f"  put {x} a" for x in "abcde")),
            ("gates", (), start + "\n".join("  past " + x for x in "abcdefghi")),
        ]:
            self.assert_invalid(part, path, text)
            self.assert_line(len(text.split("\n")) + 1, text + "\nwrong")
        self.assert_invalid("asks", (), "ask pay yes yes\ninputs a a\nrows\n  leave")

    def test_every_wrong_line_is_told_first(self):
        """A text with one line changed by chance is of another program, or the line or a later one is wrong."""
        chance = random.Random(5)
        for seed in range(200):
            program = small_program(chance, Program)
            lines = program_text(program).split("\n")
            at = chance.randrange(len(lines))
            changed = lines[:at] + chance.choice([[], [lines[at] + " "], [" " + lines[at]], ["  " + lines[at]], [lines[at][2:]],
                                                  [lines[at], lines[at]], ["x" + lines[at]], [lines[at] + " x"]]) + lines[at + 1:]
            if changed == lines:
                continue
            try:
                other = read_program("\n".join(changed))
            except InvalidText as fault:
                self.assertGreater(fault.line, at)
            except InvalidProgram:
                pass
            else:
                self.assertNotEqual(other, program)
                self.assertEqual(program_text(other), "\n".join(changed))


TOKENS = [
    (("begin", "go"), "begin go"), (("asked", "pay"), "  asked pay"), (("set",), "  set"), (("noted", "a"), "  noted a"),
    (("marked", "g"), "  marked g"), (("answer", 0, "yes"), "answer 0 yes"), (("set",), "  set"), (("dropped", 1), "  dropped 1"),
    (("rang", 2), "rang 2"), (("signal", "stop", "now"), "signal stop now"), (("ended", "done"), "  ended done"),
]


class HistoryTextTest(TextTest):
    def test_each_form_of_a_token(self):
        for last in (("ended", "done"), ("anew", "go")):
            history = [token for token, _ in TOKENS[:-1]] + [last]
            text = "\n".join([line for _, line in TOKENS[:-1]] + ["  " + " ".join(last)])
            self.assertEqual(history_text(history), text)
            self.assertEqual(read_history(text), history)
        for many in range(1, len(TOKENS)):
            history, text = [token for token, _ in TOKENS[:many]], "\n".join(line for _, line in TOKENS[:many])
            self.assertEqual(history_text(history), text)
            self.assertEqual(read_history(text), history)

    def test_wrong_histories(self):
        for history in ([("begin", "go"), ("rang", 0)], [("set",)], [("begin", "go"), ("asked", "a"), ("answer", False, "x")]):
            self.assert_raises(InvalidHistory, {"at": len(history) - 1}, history_text, history)
        self.assert_raises(InvalidHistory, {"at": 0}, history_text, [])
        for value in all_odd_values():
            at = 0 if isinstance(value, list) else -1
            self.assert_raises(InvalidHistory, {"at": at}, history_text, value)

    def test_lines_that_are_no_token(self):
        for line in ("", " ", "  ", "begin", "begin ", "begin  go", "begin go ", " begin go", "  begin go", "begin Go", "begin go on",
                     "begin toolongword", "Begin go", "answer 0", "answer yes", "answer 0 yes no", "answer 00 yes", "answer 01 yes",
                     "answer -1 yes", "answer +1 yes", "answer 123456 yes", "answer 0  yes", "answer a yes", "answer 0 1",
                     "answer \u0661 yes", "answer \u00b2 yes", "answer 1_0 yes", "  answer 0 yes", "rang", "rang x", "rang 0 x", "rang 00",
                     "  rang 0", "signal", "signal stop", "signal stop 1", "signal stop a b", "  signal stop a", "asked pay", "  asked",
                     "  asked pay a", "   asked pay", "    asked pay", " asked pay", "set", "  set a", "  set ", "   set", "dropped 0",
                     "  dropped", "  dropped a", "  dropped 01", "  dropped 0 a", "  dropped 100000", "  noted", "noted a", "  noted a b",
                     "  marked", "marked g", "  ended", "ended done", "  ended Done", "  anew", "anew go", "  timer", "\tset", "  set\r"):
            self.assert_line(1, line, read_history)
            self.assert_line(3, "begin go\n  set\n" + line, read_history)
            self.assert_line(2, "begin go\n" + line + "\nwrong", read_history)

    def test_a_wrong_line_is_told_ahead_of_a_wrong_history(self):
        self.assert_line(4, "rang 0\nrang 0\nbegin go\nwrong", read_history)
        for at, text in [(0, "rang 0"), (0, "  set"), (1, "begin go\nbegin go"), (1, "begin go\nrang 0"), (1, "begin go\nrang 99999"),
                         (2, "begin go\n  set\nanswer 0 yes"), (3, "begin go\n  set\nrang 0\nrang 0"), (2, "begin go\n  ended a\n  set"),
                         (2, "begin go\n  anew a\nsignal a b")]:
            self.assert_raises(InvalidHistory, {"at": at}, read_history, text)

    def test_numbers_as_they_are_written(self):
        things = [("begin", "go")] + [("set",)] * 12000
        for number in (0, 1, 9, 10, 99, 100, 999, 1000, 9999, 10000, 11999):
            history = things + [("rang", number)]
            self.assertTrue(history_text(history).endswith(f"\nrang {number}"))
            self.assertEqual(read_history(history_text(history)), history)

    def test_20000_tokens(self):
        histories = [
            [("begin", "go")] + [("set",), ("dropped", None)] * 9999 + [("ended", "done")],
            [("begin", "go"), ("set",)] + [("rang", None), ("set",)] * 9999,
            [("begin", "go")] + [("signal", "stop", "now")] * 19999,
            [("begin", "go")] + [("set",)] * 9999 + [("rang", None)] * 10000,
        ]
        for history in histories:
            number = -1
            for at, token in enumerate(history):
                if token[-1] is None:
                    number += 1
                    history[at] = (token[0], number)
            history = history if history[-1] != ("rang", 9999) else history[:-1]
            check(history)
            text = history_text(history)
            self.assertEqual(len(text.split("\n")), len(history))
            self.assertEqual(read_history(text), history)

    def test_lists_are_new(self):
        text = "begin go\n  set"
        told = read_history(text)
        told.append("more")
        self.assertEqual(read_history(text), [("begin", "go"), ("set",)])


if __name__ == "__main__":
    unittest.main()
