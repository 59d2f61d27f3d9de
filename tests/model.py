"""A second, slow way to do live turns, to compare the program with.

Each branch is a Python generator that walks the rows as they are nested, and
each turn is done by doing the whole run again from its begin turn.
"""


class ModelFalls(Exception):
    pass


class ModelNote(Exception):
    pass


class ModelOver(Exception):
    pass


class ModelLeave(Exception):
    pass


class Branch:
    def __init__(self, generator):
        self.generator = generator
        self.ready = lambda: True
        self.wait = None
        self.inner = []
        self.through = False

    def first_ready(self):
        if self.through:
            return None
        if self.ready():
            return self
        for branch in self.inner:
            found = branch.first_ready()
            if found is not None:
                return found
        return None

    def waits(self):
        if self.through:
            return []
        own = [] if self.inner else [self.wait]
        return own + [path for branch in self.inner for path in branch.waits()]


class World:
    """One run from its begin turn; it is of no use any more when a turn has failed."""

    def __init__(self, program):
        self.program = program
        self.things = []
        self.labels = {}
        self.clock = 0
        self.gates = {}
        self.done = set()
        self.history = []
        self.closing = None
        self.slots = {slot: "none" for slot in program.names()["slots"]}
        self.boxes = {name: [] for name in program.signals()}
        self.root = Branch(self.whole())

    def turn(self, token, notes):
        self.rows_done = 0
        self.notes = list(notes)
        self.notes_done = 0
        self.history.append(token)
        self.clock += 1
        if token[0] == "begin":
            self.slots["in"] = token[1]
        elif token[0] == "signal":
            self.boxes[token[1]].append(token[2])
        else:
            thing = self.things[token[1]]
            thing["done"] = (self.clock, token[2] if token[0] == "answer" else "rang")
        while self.closing is None:
            branch = self.root.first_ready()
            if branch is None:
                break
            try:
                branch.ready, branch.wait, branch.inner = next(branch.generator)
            except StopIteration:
                branch.through = True
            except ModelOver:
                pass

    def write(self, command):
        self.history.append(command)
        if command[0] in ("ended", "anew"):
            self.closing = command
            raise ModelOver

    def whole(self):
        yield from self.walk(self.program.rows(), ())
        self.write(("ended", "done"))

    def walk(self, rows, prefix):
        for number, row in enumerate(rows):
            path = prefix + (number,)
            while True:
                if self.rows_done >= 200:
                    raise ModelFalls("long", path)
                self.rows_done += 1
                self.done.add(path)
                if row[0] != "loop":
                    yield from getattr(self, "do_" + row[0].replace("if", "choice"))(path, *row[1:])
                    break
                try:
                    yield from self.walk(row[1], path + (0,))
                except ModelLeave:
                    break

    def start(self, path, label, kind, name):
        if label in self.labels:
            raise ModelFalls("busy", path)
        self.labels[label] = {"n": len(self.things), "kind": kind, "name": name, "done": None}
        self.things.append(self.labels[label])
        self.write(("asked", name) if kind == "asked" else ("set",))

    def do_ask(self, path, name, label):
        self.start(path, label, "asked", name)
        yield from ()

    def do_timer(self, path, label):
        self.start(path, label, "timer", None)
        yield from ()

    def is_done(self, label):
        return label in self.labels and self.labels[label]["done"] is not None

    def do_await(self, path, label, slot):
        if label not in self.labels:
            raise ModelFalls("free", path)
        if not self.is_done(label):
            yield (lambda: self.is_done(label)), path, []
        self.slots[slot] = self.labels.pop(label)["done"][1]

    def do_first(self, path, labels, slot):
        if not all(label in self.labels for label in labels):
            raise ModelFalls("free", path)
        if not any(self.is_done(label) for label in labels):
            yield (lambda: any(self.is_done(label) for label in labels)), path, []
        self.slots[slot] = min((self.labels[label]["done"], label) for label in labels if self.is_done(label))[1]

    def do_drop(self, path, label):
        thing = self.labels.pop(label, None)
        if thing is not None and thing["done"] is None:
            self.write(("dropped", thing["n"]))
        yield from ()

    def do_take(self, path, name, slot):
        if not self.boxes[name]:
            yield (lambda: bool(self.boxes[name])), path, []
        self.slots[slot] = self.boxes[name].pop(0)

    def do_note(self, path, slot, words):
        if self.notes_done == 3:
            raise ModelFalls("notes", path)
        if self.notes_done >= len(self.notes) or self.notes[self.notes_done] not in words:
            raise ModelNote(self.notes_done)
        self.slots[slot] = self.notes[self.notes_done]
        self.notes_done += 1
        self.write(("noted", self.slots[slot]))
        yield from ()

    def do_put(self, path, slot, word):
        self.slots[slot] = word
        yield from ()

    def do_choice(self, path, slot, word, one, other):
        number = 0 if self.slots[slot] == word else 1
        yield from self.walk([one, other][number], path + (number,))

    def do_leave(self, path):
        raise ModelLeave
        yield

    def do_part(self, path, rows):
        yield from self.walk(rows, path + (0,))

    def do_both(self, path, sides):
        inner = [Branch(self.walk(rows, path + (number,))) for number, rows in enumerate(sides)]
        yield (lambda: all(branch.through for branch in inner)), path, inner

    def do_gate(self, path, name, new, old):
        if name not in self.gates:
            self.write(("marked", name))
            self.gates[name] = True
        number = 0 if self.gates[name] else 1
        yield from self.walk([new, old][number], path + (number,))

    def do_past(self, path, name, rows):
        self.gates.setdefault(name, True)
        yield from self.walk(rows, path + (0,))

    def do_end(self, path, slot):
        self.write(("ended", self.slots[slot]))
        yield

    def do_anew(self, path, slot):
        self.write(("anew", self.slots[slot]))
        yield

    def outer(self):
        if self.closing is not None:
            return []
        tokens = []
        for thing in self.labels.values():
            if thing["done"] is None and thing["kind"] == "asked":
                tokens += [("answer", thing["n"], word) for word in self.program.asks()[thing["name"]]]
            elif thing["done"] is None:
                tokens.append(("rang", thing["n"]))
        for name, (room, words) in self.program.signals().items():
            if len(self.boxes[name]) < room:
                tokens += [("signal", name, word) for word in words]
        return sorted(tokens)

    def standing(self):
        if self.closing is not None:
            return ({"ended": "over", "anew": "anew"}[self.closing[0]], self.closing[1])
        labels = []
        for label, thing in sorted(self.labels.items()):
            others = self.labels.values()
            if thing["done"] is None:
                rank = sum(1 for other in others if other["done"] is None and other["n"] < thing["n"])
                labels.append((label, thing["kind"], rank) + ((thing["name"],) if thing["kind"] == "asked" else ()))
            else:
                rank = sum(1 for other in others if other["done"] is not None and other["done"][0] < thing["done"][0])
                labels.append((label, "done", thing["done"][1], rank))
        boxes = tuple((name, tuple(words)) for name, words in sorted(self.boxes.items()))
        slots = tuple(sorted(self.slots.items()))
        return ("at", tuple(sorted(self.root.waits())), slots, tuple(labels), boxes, tuple(sorted(self.gates.items())))


class ModelRun:
    """The turns that were kept; each question does them all again."""

    def __init__(self, program, word, notes):
        self.program = program
        self.turns = []
        self.tell(("begin", word), notes)

    def world(self, turns):
        world = World(self.program)
        for token, notes in turns:
            world.turn(token, notes)
        return world

    def tell(self, token, notes):
        turns = self.turns + [(token, tuple(notes))]
        before = len(self.world(self.turns).history)
        history = self.world(turns).history
        self.turns = turns
        return history[before + 1:]


class ModelBreaks(Exception):
    pass


class ReadingWorld(World):
    """One run that is read from its begin turn; it is of no use any more when the reading has broken."""

    def read_turn(self, turn, start):
        self.stock = list(turn[1:])
        self.place = start + 1
        word = self.fault(turn[0])
        if word:
            raise ModelBreaks(start, word)
        try:
            self.turn(turn[0], ())
        except ModelFalls:
            raise ModelBreaks(start, "falls")
        if self.stock:
            raise ModelBreaks(self.place, "fewer")

    def fault(self, token):
        if token[0] == "begin" and token[1] not in self.program.inputs():
            return "word"
        if token[0] == "answer" and token[2] not in self.program.asks()[self.things[token[1]]["name"]]:
            return "word"
        if token[0] == "signal":
            room, words = self.program.signals().get(token[1], (0, ()))
            if token[2] not in words:
                return "word"
            if len(self.boxes[token[1]]) == room:
                return "full"

    def taken(self, fits):
        if not self.stock:
            raise ModelBreaks(self.place, "more")
        if not fits(self.stock[0]):
            raise ModelBreaks(self.place, "other")
        self.place += 1
        return self.stock.pop(0)

    def write(self, command):
        World.write(self, self.taken(lambda token: token == command))

    def do_note(self, path, slot, words):
        if self.notes_done == 3:
            raise ModelFalls("notes", path)
        self.notes_done += 1
        command = self.taken(lambda token: token in [("noted", word) for word in words])
        self.slots[slot] = command[1]
        self.history.append(command)
        yield from ()

    def do_gate(self, path, name, new, old):
        if name not in self.gates:
            self.gates[name] = self.stock[:1] == [("marked", name)]
            if self.gates[name]:
                self.write(("marked", name))
        number = 0 if self.gates[name] else 1
        yield from self.walk([new, old][number], path + (number,))

    def do_past(self, path, name, rows):
        if name not in self.gates and self.stock[:1] == [("marked", name)]:
            self.write(("marked", name))
        self.gates[name] = self.gates.get(name, True)
        yield from self.walk(rows, path + (0,))


def read_world(program, turns, kind=ReadingWorld):
    """The world behind turns that are read; ModelBreaks if the reading breaks."""
    world = kind(program)
    start = 0
    for turn in turns:
        world.read_turn(turn, start)
        start += len(turn)
    return world
