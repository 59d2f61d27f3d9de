"""A second, slow way to find all the turns behind a history, to compare the program with.

A history is a tuple of turns here, each a tuple of tokens. Read turns are found
by trying all commands one by one; written turns by trying all notes.
"""

from tests.model import ModelBreaks, ModelFalls, ModelNote, ReadingWorld, World, read_world


def words_of(program):
    """All words that a command of the program may have: those in its rows, answers, signals and inputs."""
    words = {"none", "rang", "done", *program.inputs()}
    for answers in program.asks().values():
        words.update(answers)
    for _, choices in program.signals().values():
        words.update(choices)
    for path in program.paths():
        row = program.row_at(path)
        for part in row[1:]:
            words.update(part if isinstance(part, tuple) and row[0] != "both" else [part] if isinstance(part, str) else [])
    return sorted(words)


def note_words(program):
    rows = [program.row_at(path) for path in program.paths()]
    return sorted({word for row in rows if row[0] == "note" for word in row[2]})


def command_words(program, started):
    """All commands that may stand in a turn."""
    commands = [("asked", name) for name in program.asks()] + [("set",)]
    commands += [("dropped", number) for number in range(started + 3)]
    commands += [("noted", word) for word in note_words(program)]
    commands += [(kind, word) for kind in ("ended", "anew") for word in words_of(program)]
    return commands + marks(program)


def marks(program):
    return [("marked", name) for name in program.names()["gates"]]


def outer_of(program, history, kind):
    if not history:
        return [("begin", word) for word in sorted(program.inputs())]
    return world_behind(program, history, kind).outer()


def world_behind(program, history, kind):
    if kind == "read":
        return read_world(program, history)
    world = World(program)
    for turn in history:
        world.turn(turn[0], [token[1] for token in turn if token[0] == "noted"])
    return world


def turns_behind(program, history, kind):
    """All turns behind a history: those that are kept as (turn, standing), those that fall as (turn, word, path)."""
    kept, fallen = [], []
    for token in outer_of(program, history, kind):
        (read_turns if kind == "read" else live_turns)(program, history, token, kept, fallen)
    return sorted(kept), sorted(fallen)


def live_turns(program, history, token, kept, fallen):
    tries = [()]
    while tries:
        notes = tries.pop()
        world = world_behind(program, history, "write") if history else World(program)
        before = len(world.history)
        try:
            world.turn(token, notes)
            kept.append((tuple(world.history[before:]), world.standing()))
        except ModelFalls as fall:
            fallen.append((tuple(world.history[before:]), *fall.args))
        except ModelNote as note:
            if note.args[0] == len(notes):
                tries += [notes + (word,) for word in note_words(program)]


class Falling(ReadingWorld):
    """A world that tells where a turn falls and how much of it was taken."""

    def try_turn(self, turn):
        self.stock = list(turn[1:])
        self.place = 1
        try:
            self.turn(turn[0], ())
        except ModelFalls as fall:
            return ("falls",) + fall.args
        except ModelBreaks as breach:
            return ("breaks",) + breach.args
        return ("breaks", self.place, "fewer") if self.stock else ("reads", self.standing())


def behind(program, history):
    world = Falling(program)
    for turn in history:
        world.read_turn(turn, 0)
    return world


def read_turns(program, history, token, kept, fallen):
    started = len(behind(program, history).things)
    tries = [(token,)]
    while tries:
        turn = tries.pop()
        world = behind(program, history)
        told = world.try_turn(turn)
        if told == ("breaks", len(turn), "more"):
            tries += [turn + (command,) for command in command_words(program, started + len(turn))]
        if told[0] == "reads":
            kept.append((turn, told[1]))
        if told[0] == "falls" and not world.stock:
            fallen.append((turn,) + told[1:])
        if told[0] == "reads" or told[0] == "falls" and not world.stock:
            # A further mark may be taken by a gate that was settled as old only because none stood there.
            tries += [turn + (mark,) for mark in marks(program)]


def by_age(history):
    """The last turn of a history, with its things by age; found anew from the whole history."""
    kinds, gone = 0, set()
    for turn in history[:-1]:
        for token in turn:
            kinds += token[0] in ("asked", "set")
            if token[0] in ("answer", "rang", "dropped"):
                gone.add(token[1])
    ages = [number for number in range(kinds + len(history[-1])) if number not in gone]
    return tuple((token[0], ages.index(token[1])) + token[2:] if token[0] in ("answer", "rang", "dropped") else token
                 for token in history[-1])


def all_histories(program, kind, most_turns, most):
    """For each number of turns, ascending, the histories with their standings; the turns behind them, as found.

    It ends behind most_turns turns, or before the level with which there would be more than most histories.
    """
    levels, found = [], {}
    level = [((), None)]
    many = 0
    while len(levels) < most_turns:
        following = []
        for history, _ in level:
            found[history] = turns_behind(program, history, kind)
            following += [(history + (turn,), standing) for turn, standing in found[history][0]]
        many += len(following)
        if many > most or not following:
            return levels, found, not following
        level = sorted(following)
        levels.append(level)
    return levels, found, False
