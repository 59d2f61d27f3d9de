"""Programs made by chance, always the same ones for the same seed."""

LABELS = ["a", "b", "c", "s", "t", "u"]
SLOTS = ["x", "y"]
WORDS = ["no", "yes", "rang", "none", "a", "t"]
ASKS = {"pay": ("no", "yes"), "tell": ("yes",)}
SIGNALS = {"stop": (2, ("no", "yes")), "call": (1, ("a",))}
KINDS = {"start": 5, "await": 7, "first": 4, "drop": 2, "take": 3, "note": 2, "put": 2, "end": 1, "anew": 1}
SHELLS = {"if": 4, "loop": 3, "part": 1, "both": 8, "gate": 1, "past": 1}
SAFE = 0.93

# For searches: fewer words and signals, so that there are fewer histories, and more gates.
FEW_SIGNALS = {"stop": (1, ("no",)), "call": (1, ("a",))}
FEW_KINDS = {"start": 5, "await": 7, "first": 3, "drop": 2, "take": 1, "note": 2, "put": 2, "end": 2, "anew": 1}
FEW_SHELLS = {"if": 4, "loop": 3, "part": 1, "both": 3, "gate": 4, "past": 3}


class Maker:
    """Makes rows; held are the labels that are probably not free where a row will stand."""

    def __init__(self, chance, kinds=KINDS, shells=SHELLS):
        self.chance = chance
        self.kinds = kinds
        self.shells = shells

    def kind_of(self, weights):
        return self.chance.choices(list(weights), list(weights.values()))[0]

    def rows(self, depth, in_loop, labels, held, most):
        rows = []
        for _ in range(self.chance.randint(0 if depth > 1 else 2, most)):
            if in_loop and self.chance.random() < 0.12:
                rows.append(("leave",))
            elif depth < 5 and self.chance.random() < 0.34:
                rows.append(self.shell(depth, in_loop, labels, held))
            else:
                rows += self.plain(labels, held)
        return rows

    def start(self, label):
        return self.chance.choice([("timer", label), ("ask", self.chance.choice(list(ASKS)), label)])

    def started(self, labels, held):
        """Rows that start what the labels lack, mostly."""
        missing = [label for label in labels if label not in held and self.chance.random() < SAFE]
        held.update(missing)
        return [self.start(label) for label in missing]

    def plain(self, labels, held):
        chance, kind = self.chance, self.kind_of(self.kinds)
        label, slot, word = chance.choice(labels), chance.choice(SLOTS), chance.choice(WORDS)
        if kind == "start":
            before = [("drop", label)] if label in held and chance.random() < SAFE else []
            held.add(label)
            return before + [self.start(label)]
        if kind == "await":
            before = self.started([label], held)
            held.discard(label)
            return before + [("await", label, slot)]
        if kind == "first":
            some = tuple(chance.sample(labels, chance.randint(1, min(3, len(labels)))))
            return self.started(some, held) + [("first", some, slot)]
        if kind == "drop":
            held.discard(label)
            return [("drop", label)]
        if kind == "note":
            return [("note", slot, ("no",) + tuple(chance.sample(WORDS[1:], chance.randint(0, 2))))]
        if kind in ("end", "anew"):
            return [(kind, chance.choice(SLOTS + ["in"]))]
        return [("take", chance.choice(list(SIGNALS)), slot) if kind == "take" else ("put", slot, word)]

    def shell(self, depth, in_loop, labels, held):
        chance, kind = self.chance, self.kind_of(self.shells)
        if kind == "both":
            return self.both(depth, labels, held)
        inner = in_loop or kind == "loop"
        lists = [self.rows(depth + 1, inner, labels, set(held), 3) for _ in range(2)]
        if kind == "if":
            return ("if", chance.choice(SLOTS + ["in"]), chance.choice(WORDS), lists[0], lists[1])
        if kind == "gate":
            return ("gate", chance.choice("gh"), lists[0], lists[1])
        if kind == "past":
            return ("past", chance.choice("gh"), lists[0])
        return (kind, lists[0])

    def both(self, depth, labels, held):
        """A both row; mostly each side has labels of its own."""
        many = self.chance.randint(2, 3)
        sides = []
        for number in range(many):
            own = labels[number::many] if self.chance.random() < 0.85 else labels
            sides.append(self.rows(depth + 1, False, own or labels, set(held), 4))
        return ("both", tuple(sides))


def made_program(chance, program):
    while True:
        rows = Maker(chance).rows(1, False, LABELS, set(), 6)
        if size(rows) <= 60:
            return program(rows, asks=ASKS, signals=SIGNALS, inputs=("yes", "no"))


def small_program(chance, program):
    """A program with few histories; with signals or without."""
    signals = chance.choice([{}, {}, FEW_SIGNALS])
    kinds = dict(FEW_KINDS, take=1 if signals else 0, note=chance.choice([2, 2, 12]))
    while True:
        rows = Maker(chance, kinds, FEW_SHELLS).rows(1, False, LABELS[:4], set(), 5)
        if size(rows) <= 60:
            return program(rows, asks=ASKS, signals=signals, inputs=chance.choice([("no",), ("yes", "no")]))


def round_program(chance, program):
    """A program that goes round in loops of several turns, mostly."""
    while True:
        rows = round_steps(chance, 1)
        if size(rows) <= 60:
            return program(rows, asks=ASKS, inputs=chance.choice([("no",), ("yes", "no")]))


def round_steps(chance, depth):
    rows = []
    for _ in range(chance.randint(1, 3)):
        rows += [chance.choice([("timer", "t"), ("ask", "pay", "t")]), ("await", "t", chance.choice(SLOTS))]
        many = chance.random()
        if many < 0.25:
            rows.append(("put", chance.choice(SLOTS), chance.choice(["yes", "none"])))
        elif many < 0.4:
            rows.append(("note", chance.choice(SLOTS), chance.choice([("no",), ("yes", "no")])))
        elif many < 0.7 and depth < 4:
            rows.append(("loop", round_steps(chance, depth + 1) + [("put", "y", "no")][:chance.randint(0, 1)]))
        elif many < 0.9 and depth < 5:
            last = ("leave",) if depth > 1 and chance.random() < 0.7 else ("end", "x")
            rows.append(("if", chance.choice(["x", "y", "in"]), "yes", [last], []))
    return rows


def changed_program(chance, program, error):
    """Another program that has come from a program by one small change or several."""
    changed = program
    for _ in range(chance.choice([1, 1, 2, 3])):
        try:
            changed = one_change(chance, changed)
        except error:
            pass
    return changed


def one_change(chance, program):
    if chance.random() < 0.2 or len(program) == 0:
        return other_head(chance, program)
    path = chance.choice(program.paths())
    row = program.row_at(path)
    label = chance.choice(LABELS[:4])
    more = chance.choice([("timer", label), ("await", label, "x"), ("put", "x", chance.choice(WORDS)), ("drop", "a"), ("end", "y")])
    name = chance.choice("ghi")
    return program.with_rows(path, chance.choice([
        [], [row, more], [more, row], [("part", [row])], [("gate", name, [more, row], [row])], [("gate", name, [more], [row])],
        [("gate", name, [], [row])], [("past", name, [row])], [("past", name, [more, row])], [("if", "x", "yes", [more], [row])],
        [("note", row[1], row[2][:1]) if row[0] == "note" else more], row[3] if row[0] == "gate" else row[1] if row[0] == "part" else [row],
        [("past",) + row[1:3] if row[0] == "gate" else row], [("part", row[2]) if row[0] in ("gate", "past") else row, more],
    ]))


def other_head(chance, program):
    asks = {name: chance.choice([words, words[:1], words + ("more",)]) for name, words in program.asks().items()}
    signals = {name: chance.choice([(room, words), (3, words), (1, words), (room, words + ("more",))])
               for name, (room, words) in program.signals().items()}
    inputs = chance.choice([program.inputs(), program.inputs()[:1], program.inputs() + ("more",)])
    return type(program)(program.rows(), asks=asks, signals=signals, inputs=inputs)


def size(rows):
    total = 0
    for row in rows:
        total += 1
        for part in row[1:]:
            if isinstance(part, list):
                total += size(part)
            elif row[0] == "both":
                total += sum(size(side) for side in part)
    return total
