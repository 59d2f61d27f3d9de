"""The house, [12.1] to [12.8], and what the general rules say of it."""

import copy
import unittest

from openruns.errors import Breaks, Falls, InvalidArgument, InvalidNote, LimitExceeded, NoRun, Taken
from openruns.house import House, Trial
from openruns.programs import Program
from tests.helpers import Raises, all_odd_values

HEAD = [("timer", "t"), ("await", "t", "x")]
GO = ("begin", "go")
BEGUN = [GO, ("set",)]
RANG = ("rang", 0)
ASKS = {"pay": ("no", "yes")}
SIGNALS = {"s": (1, ("a", "b"))}

# Behind the ring, the first one falls, the second one asks, the third one waits for notes.
FALLING = Program(HEAD + [("await", "u", "x")], signals=SIGNALS)
ASKING = Program(HEAD + [("ask", "pay", "u"), ("await", "u", "x"), ("anew", "in")], asks=ASKS, signals=SIGNALS)
NOTING = Program(HEAD + [("note", "y", ("a", "b")), ("note", "x", ("b", "c")), ("timer", "t"), ("await", "t", "z")])
ROUND = Program([("loop", HEAD)])
OTHER = Program([("ask", "pay", "a"), ("await", "a", "x")], asks=ASKS)
# Runs that are begun anew with the word of their input.
AGAIN = Program(HEAD + [("anew", "in")], inputs=("go", "on"))


class HouseTest(Raises, unittest.TestCase):
    def assert_wrong(self, part, call, *args, **named):
        self.assert_raises(InvalidArgument, {"part": part}, call, *args, **named)

    def told(self, house):
        """All that a house tells of itself."""
        runs = {name: (house[name], house.tail(name), house.past(name)) for name in house.names()}
        return (house.edition, runs, house.still(), len(house))

    def assert_unchanged(self, house, error, attributes, call, *args, **named):
        before = copy.deepcopy(self.told(house)[1:])
        edition = house.edition
        self.assert_raises(error, attributes, call, *args, **named)
        self.assertEqual(self.told(house)[1:], before)
        self.assertIs(house.edition, edition)

    def house_with(self, program, *names):
        house = House(program)
        for name in names:
            house[name] = "go"
        return house

    def stuck_house(self):
        """A house with one run that stands still, and nothing but the ring in its tail."""
        house = self.house_with(FALLING, "one")
        self.assertIsNone(house.tell("one", RANG))
        return house


class BeginTest(HouseTest):
    def test_commands_and_history(self):
        house = House(ASKING)
        self.assertEqual(house.begin("one", "go"), [("set",)])
        self.assertEqual((house["one"], house.past("one"), house.tail("one"), house.still()), (BEGUN, [], [], []))
        house["two"] = "go"
        self.assertEqual((house.names(), len(house)), (["one", "two"], 2))
        noted = House(Program([("note", "x", ("a", "b"))] + HEAD))
        self.assertEqual(noted.begin("one", "go", ["b"]), [("noted", "b"), ("set",)])
        self.assertEqual(noted.begin(notes=("a", "other"), word="go", name="two"), [("noted", "a"), ("set",)])
        self.assertEqual(House(Program([])).begin("one", "go"), [("ended", "done")])

    def test_wrong_arguments_in_their_order(self):
        house = self.house_with(ASKING, "one")
        for value in all_odd_values():
            if value not in ("a", "go"):
                self.assert_unchanged(house, InvalidArgument, {"part": "name"}, house.begin, value, None, None)
                self.assert_unchanged(house, InvalidArgument, {"part": "name"}, house.__setitem__, value, None)
            if value != "go":
                self.assert_unchanged(house, InvalidArgument, {"part": "word"}, house.begin, "two", value, None)
                self.assert_unchanged(house, InvalidArgument, {"part": "word"}, house.__setitem__, "two", value)
            if value not in ([], (), ["a"], ("a",)):
                self.assert_unchanged(house, InvalidArgument, {"part": "notes"}, house.begin, "two", "go", value)
        self.assert_unchanged(house, Taken, {"name": "one"}, house.begin, "one", None, None)
        self.assert_unchanged(house, Taken, {"name": "one"}, house.__setitem__, "one", "go")

    def test_turns_that_fail(self):
        house = House(Program([("note", "x", ("a", "b")), ("if", "x", "b", [("await", "t", "x")], [])]))
        self.assert_unchanged(house, InvalidNote, {"at": 0}, house.begin, "one", "go")
        self.assert_unchanged(house, InvalidNote, {"at": 0}, house.begin, "one", "go", ["c"])
        self.assert_unchanged(house, InvalidNote, {"at": 0}, house.__setitem__, "one", "go")
        self.assert_unchanged(house, Falls, {"word": "free", "path": (1, 0, 0)}, house.begin, "one", "go", ["b"])
        self.assertNotIn("one", house)
        self.assertEqual(house.begin("one", "go", ["a"]), [("noted", "a"), ("ended", "done")])

    def test_a_new_house(self):
        house = House(program=ASKING)
        self.assertIs(house.edition, ASKING)
        self.assertEqual((house.names(), len(house), house.still()), ([], 0, []))
        for value in all_odd_values():
            if not isinstance(value, Program):
                self.assert_wrong("program", House, value)


class NamesTest(HouseTest):
    def test_names(self):
        house = self.house_with(ASKING, "two", "one", "three")
        self.assertEqual((house.names(), len(house)), (["one", "three", "two"], 3))
        for value in all_odd_values() + ["four", ("one",), ["one"], b"one"]:
            self.assertIs(value in house, False)
        self.assertIs("one" in house, True)
        self.assertRaises(TypeError, list, house)

    def test_no_run(self):
        house = self.house_with(ASKING, "one")
        for value in all_odd_values() + ["two"]:
            for call in (house.__getitem__, house.past, house.tail, house.take_out):
                self.assert_unchanged(house, NoRun, {"name": value}, call, value)
            self.assert_unchanged(house, NoRun, {"name": value}, house.tell, value, None, None)
            self.assert_unchanged(house, NoRun, {"name": value}, house.again, value, None)
            self.assert_unchanged(house, NoRun, {"name": value}, house.rewind, value, None)

    def test_take_out(self):
        house = self.house_with(ASKING, "one", "two")
        house.tell("one", RANG)
        self.assertEqual(house.take_out("one"), BEGUN + [RANG, ("asked", "pay")])
        self.assertEqual((house.names(), "one" in house), (["two"], False))
        self.assertEqual(house.take_out(name="two"), BEGUN)
        self.assertEqual(house.begin("one", "go"), [("set",)])
        self.assertEqual((house.past("one"), house.tail("one")), ([], []))

    def test_lists_are_new(self):
        house = self.stuck_house()
        house.tell("one", ("signal", "s", "a"), ["a"])
        again = self.house_with(AGAIN, "one")
        again.tell("one", RANG)
        again.again("one")
        for some, calls in ((house, [house.__getitem__, house.tail]), (again, [again.past, again.__getitem__])):
            for call in calls:
                before = copy.deepcopy(call("one"))
                self.assertNotEqual(before, [])
                call("one").clear()
                self.assertEqual(call("one"), before)
            some.names().clear()
            some.still().clear()
            self.assertEqual(some.names(), ["one"])
        again.past("one")[0].clear()
        self.assertEqual(again.past("one"), [BEGUN + [RANG, ("anew", "go")]])
        self.assertEqual(house.still(), [("one", ("falls", "free"))])
        self.assertEqual(house.tail("one"), [(RANG, ()), (("signal", "s", "a"), ("a",))])

    def test_commands_are_new_lists(self):
        house = House(ROUND)
        house.begin("one", "go").clear()
        house.tell("one", RANG).append(("set",))
        self.assertEqual(house["one"], BEGUN + [RANG, ("set",)])
        notes = ["a"]
        house = self.stuck_house()
        house.tell("one", ("signal", "s", "a"), notes)
        notes.append("b")
        self.assertEqual(house.tail("one")[1], (("signal", "s", "a"), ("a",)))
        house.rewind("one", 1).append(("set",))
        house.take_out("one").clear()


class TellTest(HouseTest):
    def test_runs_that_move(self):
        house = self.house_with(ASKING, "one", "two")
        self.assertEqual(house.tell("one", RANG), [("asked", "pay")])
        self.assertEqual(house.tell("one", ("signal", "s", "b")), [])
        self.assertEqual(house.tell(notes=(), token=("answer", 1, "no"), name="one"), [("anew", "go")])
        self.assertEqual(house["one"], BEGUN + [RANG, ("asked", "pay"), ("signal", "s", "b"), ("answer", 1, "no"), ("anew", "go")])
        self.assertEqual((house["two"], house.still(), house.tail("one")), (BEGUN, [], []))
        noting = self.house_with(NOTING, "one")
        self.assertEqual(noting.tell("one", RANG, ("b", "c", "more")), [("noted", "b"), ("noted", "c"), ("set",)])

    def test_tokens_that_cannot_come(self):
        house = self.house_with(ASKING, "one", "done")
        house.tell("done", RANG)
        house.tell("done", ("answer", 1, "yes"))
        wrong = [GO, ("rang", 1), ("rang", False), ("rang",), ("answer", 0, "no"), ("signal", "s", "c"), ("signal", "u", "a"), ("set",), ["rang", 0],
                 ("asked", "pay"), ("ended", "done"), ("rang", 0, 0)]
        for value in all_odd_values() + wrong:
            self.assert_unchanged(house, InvalidArgument, {"part": "token"}, house.tell, "one", value, None)
        for value in all_odd_values() + wrong + [RANG, ("signal", "s", "a"), ("answer", 1, "yes")]:
            self.assert_unchanged(house, InvalidArgument, {"part": "token"}, house.tell, "done", value, None)
        house.tell("one", ("signal", "s", "a"))
        self.assert_unchanged(house, InvalidArgument, {"part": "token"}, house.tell, "one", ("signal", "s", "a"))

    def test_notes(self):
        house = self.house_with(NOTING, "one")
        for value in all_odd_values() + [["a", 1], "ab", {"a": 1}]:
            if value not in ([], (), ["a"], ("a",)):
                self.assert_unchanged(house, InvalidArgument, {"part": "notes"}, house.tell, "one", RANG, value)
        for notes, at in (([], 0), ((), 0), (["c"], 0), (["a"], 1), (["a", "a"], 1), (["c", "a"], 0)):
            self.assert_unchanged(house, InvalidNote, {"at": at}, house.tell, "one", RANG, notes)
        self.assertEqual(house.still(), [])
        self.assertEqual(house.tell("one", RANG, ["a", "b"]), [("noted", "a"), ("noted", "b"), ("set",)])

    def test_a_turn_that_falls(self):
        house = self.house_with(FALLING, "one", "two")
        self.assertIsNone(house.tell("one", RANG, ["b", "a"]))
        self.assertEqual((house["one"], house.tail("one"), house.still()), (BEGUN, [(RANG, ("b", "a"))], [("one", ("falls", "free"))]))
        self.assertEqual((house["two"], house.tail("two")), (BEGUN, []))
        for rows, word in (([("timer", "u"), ("timer", "u")], "busy"), ([("loop", [])], "long"), ([("note", "y", ("a",))] * 4, "notes")):
            house = self.house_with(Program(HEAD + rows), "one")
            self.assertIsNone(house.tell("one", RANG, ["a"] * 3))
            self.assertEqual(house.still(), [("one", ("falls", word))])
        house = self.house_with(Program(HEAD + [("note", "y", ("a",)), ("await", "u", "x")]), "one")
        self.assert_unchanged(house, InvalidNote, {"at": 0}, house.tell, "one", RANG)

    def test_runs_that_stand_still(self):
        """The edition is not asked: words and names only have to be words."""
        house = self.house_with(Program([("timer", "t"), ("ask", "pay", "a"), ("timer", "u"), ("await", "t", "x"), ("await", "v", "x")], asks=ASKS, signals=SIGNALS), "one")
        house.tell("one", RANG)
        told = [("signal", "none", "nothing"), ("answer", 1, "nothing"), ("signal", "s", "a"), ("signal", "s", "a"), ("rang", 2)]
        for token in told:
            self.assertIsNone(house.tell("one", token, ["anything"]))
        self.assertEqual(house.tail("one"), [(RANG, ())] + [(token, ("anything",)) for token in told])
        self.assertEqual(house["one"], BEGUN + [("asked", "pay"), ("set",)])
        self.assertEqual(house.still(), [("one", ("falls", "free"))])
        # What is in the tail already, what is no open thing of its kind, what is no outer token.
        for value in [RANG, ("answer", 1, "yes"), ("rang", 2), ("rang", 3), ("answer", 3, "yes"), GO, ("set",), ("asked", "pay"), ("dropped", 1), ("ended", "done"),
                      ("rang", True), ("answer", True, "yes"), ("signal", "s", "A"), ("signal", "S", "a"), ("signal", "s"), ["signal", "s", "a"], ("signal", "s", "a", "a"),
                      ("rang", -1), ("signal", "toolongword", "a")] + all_odd_values():
            self.assert_unchanged(house, InvalidArgument, {"part": "token"}, house.tell, "one", value, None)
        for value in all_odd_values():
            if value not in ([], (), ["a"], ("a",)):
                self.assert_unchanged(house, InvalidArgument, {"part": "notes"}, house.tell, "one", ("signal", "s", "a"), value)

    def test_kinds_of_things_in_the_tail(self):
        """An ask is answered and a timer rings; things that ended or were dropped in the history do neither."""
        program = Program([("timer", "t"), ("ask", "pay", "a"), ("timer", "u"), ("timer", "v"), ("await", "u", "x"), ("drop", "v"), ("await", "t", "x"), ("await", "w", "x")],
                          asks=ASKS)
        house = self.house_with(program, "one")
        house.tell("one", ("rang", 2))
        self.assertEqual(house["one"][-1], ("dropped", 3))
        self.assertIsNone(house.tell("one", RANG))
        for value in (("rang", 1), ("rang", 2), ("rang", 3), ("answer", 0, "yes"), ("answer", 2, "yes"), ("answer", 3, "yes"), ("rang", 4)):
            self.assert_unchanged(house, InvalidArgument, {"part": "token"}, house.tell, "one", value)
        self.assertIsNone(house.tell("one", ("answer", 1, "yes")))

    def test_sixty_entries(self):
        house = self.stuck_house()
        for _ in range(59):
            self.assertIsNone(house.tell("one", ("signal", "s", "a")))
        self.assertEqual(len(house.tail("one")), 60)
        self.assert_unchanged(house, LimitExceeded, {"limit": 60}, house.tell, "one", ("signal", "s", "a"))
        self.assert_unchanged(house, InvalidArgument, {"part": "token"}, house.tell, "one", RANG)
        self.assert_unchanged(house, InvalidArgument, {"part": "notes"}, house.tell, "one", ("signal", "s", "a"), "a")


class EditionTest(HouseTest):
    def test_setting_it(self):
        house = self.house_with(ASKING, "one")
        house.edition = FALLING
        self.assertIs(house.edition, FALLING)
        self.assertEqual(house.deploy(ASKING), [])
        self.assertIs(house.edition, ASKING)
        self.assertEqual(house.deploy(program=OTHER), [("one", ("breaks", 1, "other"))])
        for value in all_odd_values():
            if not isinstance(value, Program):
                self.assert_unchanged(house, InvalidArgument, {"part": "program"}, house.deploy, value)
                self.assert_unchanged(house, InvalidArgument, {"part": "edition"}, self.set_edition, house, value)

    def set_edition(self, house, value):
        house.edition = value

    def test_runs_that_break(self):
        """They stand still, and keep their tail, which may be empty."""
        house = self.house_with(ASKING, "one", "two")
        house.tell("two", RANG)
        house.edition = FALLING
        self.assertEqual(house.still(), [("two", ("breaks", 2, "falls"))])
        self.assertEqual((house.tail("two"), house["two"]), ([], BEGUN + [RANG, ("asked", "pay")]))
        self.assertIsNone(house.tell("two", ("answer", 1, "maybe"), ["a"]))
        self.assert_unchanged(house, InvalidArgument, {"part": "token"}, house.tell, "two", ("answer", 1, "yes"))
        self.assertEqual((house.tail("two"), house.still()), ([(("answer", 1, "maybe"), ("a",))], [("two", ("breaks", 2, "falls"))]))
        house.edition = OTHER
        self.assertEqual(house.still(), [("one", ("breaks", 1, "other")), ("two", ("breaks", 1, "other"))])
        self.assertEqual(house.tail("two"), [(("answer", 1, "maybe"), ("a",))])
        # The history is read again, but the word in the tail is none of the ask's.
        house.edition = ASKING
        self.assertEqual(house.still(), [("two", ("word",))])
        house.edition = Program(ASKING.rows(), asks={"pay": ("no", "yes", "maybe")}, signals=SIGNALS)
        self.assertEqual((house.still(), house.tail("two"), house["two"][-2:]), ([], [], [("answer", 1, "maybe"), ("anew", "go")]))

    def test_the_tail_is_worked_off(self):
        house = self.stuck_house()
        for token in (("signal", "s", "a"), ("signal", "s", "b")):
            house.tell("one", token)
        house.edition = Program([("timer", "t"), ("await", "t", "x"), ("take", "s", "x"), ("take", "s", "y"), ("timer", "v"), ("await", "v", "w")], signals=SIGNALS)
        self.assertEqual((house.still(), house.tail("one")), ([], []))
        self.assertEqual(house["one"], BEGUN + [RANG, ("signal", "s", "a"), ("signal", "s", "b"), ("set",)])
        self.assertEqual(house.tell("one", ("rang", 1)), [("ended", "done")])

    def test_notes_of_the_tail(self):
        rows = [("note", "y", ("a", "b")), ("timer", "u"), ("await", "u", "x")]
        for notes, cause in ((["a"], None), (["b", "c"], None), ([], ("note", 0)), (["c"], ("note", 0))):
            house = self.house_with(FALLING, "one")
            house.tell("one", RANG, notes)
            house.edition = Program(HEAD + rows, signals=SIGNALS)
            self.assertEqual(house.still(), [] if cause is None else [("one", cause)])
            if cause is None:
                self.assertEqual(house["one"], BEGUN + [RANG, ("noted", notes[0]), ("set",)])
            else:
                self.assertEqual((house["one"], house.tail("one")), (BEGUN, [(RANG, tuple(notes))]))

    def test_the_second_note(self):
        house = self.house_with(FALLING, "one")
        house.tell("one", RANG, ["a"])
        house.edition = NOTING
        self.assertEqual(house.still(), [("one", ("note", 1))])

    def test_entries_that_stop_the_work(self):
        """What is done ahead of them is kept; they stay first."""
        signals = {"s": (1, ("a",))}
        rows = HEAD + [("timer", "u"), ("await", "u", "x")]
        for token, cause in ((("signal", "none", "a"), ("word",)), (("signal", "s", "b"), ("word",)), (("signal", "s", "a"), None)):
            house = self.stuck_house()
            house.tell("one", token)
            house.tell("one", ("signal", "s", "a"), ["a"])
            house.edition = Program(rows, signals=signals)
            history = BEGUN + [RANG, ("set",)]
            if cause is None:
                self.assertEqual((house.still(), house["one"]), ([("one", ("full",))], history + [("signal", "s", "a")]))
                self.assertEqual(house.tail("one"), [(("signal", "s", "a"), ("a",))])
            else:
                self.assertEqual((house.still(), house["one"]), ([("one", cause)], history))
                self.assertEqual(house.tail("one"), [(token, ()), (("signal", "s", "a"), ("a",))])

    def test_turns_that_fall_in_the_tail(self):
        house = self.stuck_house()
        for rows, word in (([("timer", "u"), ("timer", "u")], "busy"), ([("loop", [])], "long"), ([("note", "y", ("a",))] * 4, "note"), ([("await", "w", "x")], "free")):
            house.edition = Program(HEAD + rows, signals=SIGNALS)
            self.assertEqual(house.still(), [("one", ("note", 0) if word == "note" else ("falls", word))])
            self.assertEqual((house["one"], house.tail("one")), (BEGUN, [(RANG, ())]))

    def test_an_entry_whose_thing_was_dropped(self):
        """It leaves the tail without a turn, at the beginning, in the middle and at the end."""
        start = [("timer", "t"), ("timer", "u"), ("ask", "pay", "a"), ("await", "t", "x")]
        house = self.house_with(Program(start + [("await", "w", "x")], asks=ASKS, signals=SIGNALS), "one")
        for token in (RANG, ("rang", 1), ("signal", "s", "a"), ("answer", 2, "nothing")):
            house.tell("one", token)
        house.edition = Program(start + [("drop", "u"), ("drop", "a"), ("timer", "v"), ("await", "v", "x")], asks=ASKS, signals=SIGNALS)
        self.assertEqual((house.still(), house.tail("one")), ([], []))
        self.assertEqual(house["one"], [GO, ("set",), ("set",), ("asked", "pay"), RANG, ("dropped", 1), ("dropped", 2), ("set",), ("signal", "s", "a")])

    def test_an_entry_whose_thing_was_dropped_earlier(self):
        """The work stops behind the turn that drops it; with the next edition it goes on."""
        start = [("timer", "t"), ("timer", "u"), ("await", "t", "x")]
        house = self.house_with(Program(start + [("await", "w", "x")], signals=SIGNALS), "one")
        for token in (RANG, ("signal", "s", "c"), ("rang", 1)):
            house.tell("one", token)
        rows = start + [("drop", "u"), ("timer", "v"), ("await", "v", "x")]
        house.edition = Program(rows, signals=SIGNALS)
        self.assertEqual((house.still(), len(house.tail("one"))), ([("one", ("word",))], 2))
        self.assertEqual(house["one"], [GO, ("set",), ("set",), RANG, ("dropped", 1), ("set",)])
        self.assert_unchanged(house, InvalidArgument, {"part": "token"}, house.tell, "one", ("rang", 1))
        self.assertIsNone(house.tell("one", ("rang", 2)))
        house.edition = Program(rows, signals={"s": (1, ("c",))})
        self.assertEqual((house.still(), house.tail("one")), ([], []))
        self.assertEqual(house["one"][-3:], [("signal", "s", "c"), ("rang", 2), ("ended", "done")])

    def test_a_run_that_becomes_over(self):
        """Its tail is emptied, whatever is in it."""
        house = self.stuck_house()
        for token in (("signal", "none", "a"), ("signal", "s", "a")):
            house.tell("one", token)
        house.edition = Program(HEAD + [("end", "x")])
        self.assertEqual((house.still(), house.tail("one"), house["one"]), ([], [], BEGUN + [RANG, ("ended", "rang")]))
        self.assert_unchanged(house, InvalidArgument, {"part": "token"}, house.tell, "one", ("signal", "s", "a"))

    def test_runs_that_are_over_stay_as_they_are(self):
        house = self.house_with(ASKING, "one")
        house.tell("one", RANG)
        house.tell("one", ("answer", 1, "no"))
        history = house["one"]
        for program in (OTHER, ROUND, ASKING):
            house.edition = program
            self.assertEqual((house.still(), house["one"], house.tail("one")), ([], history, []))

    def test_the_cause_is_that_of_the_edition(self):
        house = self.stuck_house()
        house.edition = OTHER
        self.assertEqual(house.still(), [("one", ("breaks", 1, "other"))])
        house.edition = Program(HEAD, inputs=("on",))
        self.assertEqual(house.still(), [("one", ("breaks", 0, "word"))])
        house.edition = FALLING
        self.assertEqual(house.still(), [("one", ("falls", "free"))])

    def test_a_run_that_moves_goes_on_with_the_edition(self):
        house = self.house_with(ROUND, "one")
        house.tell("one", RANG)
        house.edition = Program(HEAD + HEAD)
        self.assertEqual(house.tell("one", ("rang", 1)), [("ended", "done")])
        # Gates that were read as old stay old.
        house = self.house_with(Program(HEAD + HEAD), "one")
        house.tell("one", RANG)
        house.edition = Program(HEAD + [("gate", "g", [("drop", "t")], [])] + HEAD + [("gate", "g", [("timer", "u")], []), ("end", "x")])
        self.assertEqual(house.tell("one", ("rang", 1)), [("ended", "rang")])


class AgainTest(HouseTest):
    def test_again(self):
        house = House(AGAIN)
        house.begin("one", "on")
        house.tell("one", RANG)
        history = [("begin", "on"), ("set",), RANG, ("anew", "on")]
        self.assertEqual(house["one"], history)
        self.assertEqual(house.again("one"), [("set",)])
        self.assertEqual((house["one"], house.past("one"), house.tail("one")), (history[:2], [history], []))
        house.tell("one", RANG)
        self.assertEqual(house.again(name="one", notes=[]), [("set",)])
        self.assertEqual(house.past("one"), [history, history])
        self.assertEqual(len(house), 1)

    def test_the_order_of_past_histories(self):
        house = House(Program([("timer", "t"), ("await", "t", "x"), ("note", "y", ("go", "on")), ("anew", "y")], inputs=("go", "on")))
        house["one"] = "go"
        for word in ("on", "go", "on"):
            house.tell("one", RANG, [word])
            house.again("one")
        self.assertEqual([history[0][1] for history in house.past("one")], ["go", "on", "go"])
        self.assertEqual(house["one"], [("begin", "on"), ("set",)])

    def test_runs_that_are_not_to_be_begun_anew(self):
        house = self.house_with(AGAIN, "one")
        self.assert_unchanged(house, InvalidArgument, {"part": "name"}, house.again, "one", None)
        house.deploy(Program(HEAD, inputs=("go",)))
        house.tell("one", RANG)
        self.assert_unchanged(house, InvalidArgument, {"part": "name"}, house.again, "one", None)
        still = self.stuck_house()
        self.assert_unchanged(still, InvalidArgument, {"part": "name"}, still.again, "one", None)

    def test_what_begin_raises(self):
        house = self.house_with(Program(HEAD + [("anew", "x")]), "one", "two")
        house.tell("one", RANG)
        self.assert_unchanged(house, InvalidArgument, {"part": "word"}, house.again, "one", None)
        house.edition = Program([("note", "x", ("a", "b")), ("if", "x", "b", [("await", "t", "x")], [])], inputs=("rang",))
        for value in all_odd_values():
            if value not in ([], (), ["a"], ("a",)):
                self.assert_unchanged(house, InvalidArgument, {"part": "notes"}, house.again, "one", value)
        self.assert_unchanged(house, InvalidNote, {"at": 0}, house.again, "one")
        self.assert_unchanged(house, Falls, {"word": "free", "path": (1, 0, 0)}, house.again, "one", ("b",))
        self.assertEqual(house.again("one", ("a",)), [("noted", "a"), ("ended", "done")])
        self.assertEqual(house.past("one"), [BEGUN + [RANG, ("anew", "rang")]])


class RewindTest(HouseTest):
    def test_runs_that_move(self):
        house = self.house_with(ROUND, "one")
        for number in range(4):
            house.tell("one", ("rang", number))
        history = house["one"]
        self.assertEqual(house.rewind("one", 5), [])
        self.assertEqual(house["one"], history)
        self.assertEqual(house.rewind("one", 3), history[6:])
        self.assertEqual(house["one"], history[:6])
        self.assertEqual(house.tell("one", ("rang", 2)), [("set",)])
        self.assertEqual(house.rewind(turns=1, name="one"), history[2:8])
        self.assertEqual(house["one"], BEGUN)
        self.assertEqual(house.tell("one", RANG), [("set",)])

    def test_runs_that_stand_still(self):
        house = self.stuck_house()
        house.tell("one", ("signal", "s", "a"))
        self.assertEqual(house.rewind("one", 1), [])
        self.assertEqual((house.still(), house.tail("one"), house["one"]), ([], [], BEGUN))
        self.assertEqual(house.tell("one", ("signal", "s", "a")), [])
        house = self.house_with(ASKING, "one")
        house.tell("one", RANG)
        house.edition = FALLING
        self.assert_unchanged(house, Breaks, {"at": 2, "word": "falls"}, house.rewind, "one", 2)
        self.assertEqual(house.rewind("one", 1), [RANG, ("asked", "pay")])
        self.assertEqual((house.still(), house["one"]), ([], BEGUN))

    def test_runs_that_are_over(self):
        house = self.house_with(ASKING, "one")
        house.tell("one", RANG)
        house.tell("one", ("answer", 1, "no"))
        history = house["one"]
        self.assertEqual(house.rewind("one", 3), [])
        self.assert_unchanged(house, InvalidArgument, {"part": "token"}, house.tell, "one", ("answer", 1, "yes"))
        self.assertEqual(house.rewind("one", 2), history[4:])
        self.assertEqual(house.tell("one", ("answer", 1, "yes")), [("anew", "go")])
        house.again("one")
        house.tell("one", RANG)
        house.rewind("one", 1)
        self.assertEqual(house.past("one"), [history[:4] + [("answer", 1, "yes"), ("anew", "go")]])
        self.assertEqual(house["one"], BEGUN)

    def test_a_run_that_is_over_and_is_not_read(self):
        house = self.house_with(ASKING, "one")
        house.tell("one", RANG)
        house.tell("one", ("answer", 1, "no"))
        house.edition = ROUND
        self.assert_unchanged(house, Breaks, {"at": 3, "word": "other"}, house.rewind, "one", 3)
        self.assert_unchanged(house, Breaks, {"at": 3, "word": "other"}, house.rewind, "one", 2)
        self.assertEqual(len(house.rewind("one", 1)), 4)
        self.assertEqual(house.tell("one", RANG), [("set",)])

    def test_wrong_turns(self):
        house = self.house_with(ROUND, "one")
        house.tell("one", RANG)
        for value in all_odd_values() + [0, 3, -1, True]:
            if type(value) is not int or not 1 <= value <= 2:
                self.assert_unchanged(house, InvalidArgument, {"part": "turns"}, house.rewind, "one", value)


class TrialTest(HouseTest):
    def test_a_trial(self):
        house = self.stuck_house()
        house["two"] = "go"
        before = self.told(house)
        trial = house.trial(program=OTHER)
        self.assertIs(type(trial), Trial)
        self.assertEqual(trial.still_then, [])
        self.assertEqual(self.told(house), before)
        with trial as held:
            self.assertIs(held, trial)
            self.assertEqual(held.still_then, [("one", ("breaks", 1, "other")), ("two", ("breaks", 1, "other"))])
            self.assertEqual((house.edition, house.still()), (OTHER, held.still_then))
            held.still_then.clear()
            self.assertEqual(len(house.still()), 2)
        self.assertEqual(self.told(house), before)

    def test_all_that_may_change_in_it(self):
        house = self.house_with(ASKING, "one", "two", "three")
        house.tell("two", RANG)
        house.tell("two", ("answer", 1, "no"))
        house.again("two")
        before = self.told(house)
        with house.trial(AGAIN):
            house.begin("four", "on")
            house.tell("one", RANG)
            house.again("one")
            house.take_out("three")
            house.tell("two", RANG)
            house.rewind("two", 1)
            house.edition = ROUND
            house.deploy(FALLING)
            house.tell("two", RANG)
            house.tell("two", ("signal", "s", "a"))
            self.assertEqual((house.names(), house.past("one")), (["four", "one", "two"], [BEGUN + [RANG, ("anew", "go")]]))
            self.assertEqual(house.still(), [("four", ("breaks", 0, "word")), ("two", ("falls", "free"))])
        self.assertEqual(self.told(house), before)
        self.assertEqual(house.tell("one", RANG), [("asked", "pay")])

    def test_the_tail_within_a_trial(self):
        house = self.stuck_house()
        before = self.told(house)
        with house.trial(ASKING) as held:
            self.assertEqual((held.still_then, house.tail("one"), house["one"]), ([], [], BEGUN + [RANG, ("asked", "pay")]))
        self.assertEqual(self.told(house), before)
        self.assertIsNone(house.tell("one", ("signal", "s", "a")))

    def test_trials_within_trials(self):
        house = self.house_with(FALLING, "one")
        before = self.told(house)
        with house.trial(ASKING) as outer:
            house.tell("one", RANG)
            between = self.told(house)
            with house.trial(OTHER) as inner:
                self.assertEqual(house.still(), inner.still_then)
                with house.trial(ASKING):
                    house.tell("one", ("answer", 1, "no"))
                self.assertEqual(house.edition, OTHER)
            self.assertEqual(self.told(house), between)
            self.assertEqual(outer.still_then, [])
        self.assertEqual(self.told(house), before)

    def test_trials_left_by_errors(self):
        house = self.house_with(FALLING, "one")
        before = self.told(house)
        with self.assertRaises(NoRun):
            with house.trial(ASKING):
                house.tell("one", RANG)
                with house.trial(OTHER):
                    house["two"] = "go"
                    house.tell("three", RANG)
        self.assertEqual(self.told(house), before)
        with self.assertRaises(ZeroDivisionError):
            with house.trial(ASKING):
                house.tell("one", RANG)
                1 // 0
        self.assertEqual(self.told(house), before)
        for _ in range(2):
            with house.trial(ASKING):
                house.tell("one", RANG)
                break
        self.assertEqual(self.told(house), before)

    def test_one_trial_twice(self):
        house = self.house_with(FALLING, "one")
        trial = house.trial(OTHER)
        for many in (1, 2):
            with trial:
                self.assertEqual(len(trial.still_then), many)
            if many == 1:
                house["two"] = "go"
        self.assertEqual(house.names(), ["one", "two"])

    def test_wrong_programs(self):
        house = self.stuck_house()
        for value in all_odd_values():
            if not isinstance(value, Program):
                self.assert_unchanged(house, InvalidArgument, {"part": "program"}, house.trial, value)
                self.assert_unchanged(house, InvalidArgument, {"part": "program"}, house.outlook, value, None)

    def test_outlook(self):
        house = self.stuck_house()
        house["two"] = "go"
        before = self.told(house)
        self.assertEqual(house.outlook(ASKING), [])
        self.assertEqual(house.outlook(OTHER, ()), [("one", ("breaks", 1, "other")), ("two", ("breaks", 1, "other"))])
        deeds = [("two", RANG, ()), ("one", ("signal", "s", "b"), ["a"])]
        self.assertEqual(house.outlook(FALLING, deeds), [("one", ("falls", "free")), ("two", ("falls", "free"))])
        self.assertEqual(house.outlook(deeds=tuple(deeds), program=FALLING), [("one", ("falls", "free")), ("two", ("falls", "free"))])
        self.assertEqual(house.outlook(ASKING, deeds), [])
        self.assertEqual(self.told(house), before)
        self.assertEqual(deeds, [("two", RANG, ()), ("one", ("signal", "s", "b"), ["a"])])

    def test_deeds_that_raise(self):
        house = self.stuck_house()
        house["two"] = "go"
        for error, attributes, deed in [
            (NoRun, {"name": "three"}, ("three", RANG, ())), (NoRun, {"name": None}, (None, None, None)), (InvalidArgument, {"part": "token"}, ("two", ("rang", 1), ())),
            (InvalidArgument, {"part": "notes"}, ("two", RANG, None)), (InvalidArgument, {"part": "token"}, ("one", RANG, None)),
        ]:
            self.assert_unchanged(house, error, attributes, house.outlook, FALLING, [("two", ("signal", "s", "a"), []), deed])
        self.assert_unchanged(house, InvalidNote, {"at": 0}, house.outlook, NOTING, [("two", RANG, ())])

    def test_wrong_deeds(self):
        house = self.stuck_house()
        wrong = [("one", RANG, ()), [["one", RANG, ()]], [("one", RANG)], [("one", RANG, (), ())], "one", {("one", RANG, ()): 1}, [("one", RANG, ()), None]]
        for value in all_odd_values() + wrong:
            if value not in ([], ()):
                self.assert_unchanged(house, InvalidArgument, {"part": "deeds"}, house.outlook, ASKING, value)


if __name__ == "__main__":
    unittest.main()
