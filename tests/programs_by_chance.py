"""Programs by chance, of few rounds, so that they can be played plainly."""

from roundheap.errors import InvalidProgram
from roundheap.programs import Program

FIELDS = ["next", "left", "side"]


def some_classes(rng):
    rows = []
    for name in ["a", "b", "c"][:rng.randint(1, 3)]:
        fields = rng.sample(FIELDS, rng.randint(0 if rows else 1, 3))
        rows.append((name, rng.choice([1, 1, 2, 3]), fields, rng.random() < 0.3))
    return rows


class Maker:
    """Makes blocks of statements over some names."""

    def __init__(self, rng, classes, weak, levels):
        self.rng, self.classes, self.weak, self.levels = rng, classes, weak, levels
        self.fields = sorted({field for row in classes for field in row[2]})
        self.functions = []
        self.left = 45
        self.rounds = [0, 1, 2, 3, 5, 9, 14]

    def simple(self, names):
        rng = self.rng
        x, y = rng.choice(names), rng.choice(names)
        field = rng.choice(self.fields)
        sort = rng.choice(self.classes)[0]
        ways = [("new", x, sort)] * 5 + [("copy", x, y)] * 3 + [("clear", x)] * 2 + [("emit", x)]
        ways += [("load", x, y, field)] * 2 + [("store", x, field, y)] * 4 + [("wipe", x, field), ("tag", x, rng.choice(["t", "u"]))]
        if self.weak:
            ways += [("weak", rng.choice(self.weak), x), ("get", x, rng.choice(self.weak))]
        if rng.random() < 0.3:
            ways.append(("collect", rng.randint(0, self.levels)))
        statement = rng.choice(ways)
        # Most failures are kept off: a statement that may fail stands behind a test.
        if statement[0] in ("load", "store", "wipe", "tag") and rng.random() < 0.85:
            name = statement[2] if statement[0] == "load" else statement[1]
            return ("ifnil", name, [("new", name, sort)] if rng.random() < 0.5 else [], [statement])
        return statement

    def block(self, names, depth, most):
        block = []
        for _ in range(self.rng.randint(1, most)):
            if self.left <= 0:
                break
            self.left -= 1
            chance = self.rng.random()
            if chance < 0.12 and depth < 3:
                block.append(("repeat", self.rng.choice(self.rounds), self.block(names, depth + 1, 3)))
            elif chance < 0.2:
                one, other = self.block(names, depth, 2), self.block(names, depth, 2)
                word = ("ifnil", self.rng.choice(names)) if self.rng.random() < 0.5 else (
                    "ifsame", self.rng.choice(names), self.rng.choice(names))
                block.append(word + (one, other))
            elif chance < 0.3 and self.functions and depth == 0 or chance < 0.24 and self.flat():
                row = self.rng.choice(self.functions if depth == 0 else self.flat())
                target = self.rng.choice(names + [None]) if row[4] is not None else None
                block.append(("call", target, row[0], [self.rng.choice(names) for _ in row[1]]))
            else:
                block.append(self.simple(names))
        return block

    def flat(self):
        """The functions without repeats."""
        return [row for row in self.functions if "repeat" not in repr(row)]

    def function(self, name):
        names = ["p", "q", "r"][:self.rng.randint(1, 3)]
        many = self.rng.randint(0, len(names))
        body = self.block(names, 1, 3)
        return (name, names[:many], names[many:], body, self.rng.choice(names + [None]))


def some_program(rng, rounds):
    """A program with a repeat of so many rounds in its body."""
    classes = some_classes(rng)
    weak = ["w"] if rng.random() < 0.4 else []
    threshold, radices = rng.choice([(1, []), (2, []), (3, [2]), (2, [3]), (1, [2, 3]), (4, [3]), (5, []), (12, []), (2, [2, 2])])
    maker = Maker(rng, classes, weak, len(radices))
    if rng.random() < 0.5:
        maker.functions = []
        for name in ["f", "g"][:rng.randint(1, 2)]:
            maker.functions.append(maker.function(name))
    names = ["x", "y", "z"][:rng.randint(1, 3)]
    body = maker.block(names, 0, 3)
    body.append(("repeat", rounds, maker.block(names, 1, 5)))
    body += maker.block(names, 0, 2)
    if rng.random() < 0.3:
        body.append(("repeat", rounds, maker.block(names, 1, 4)))
        body += maker.block(names, 0, 2)
    return made_or_again(rng, rounds, some_program, classes, body, maker, names, weak, threshold, radices)


def made_or_again(rng, rounds, again, classes, body, maker, names, weak, threshold, radices):
    try:
        return Program(classes, body, variables=names, weak=weak, threshold=threshold, radices=radices,
                       functions=maker.functions)
    except InvalidProgram:
        # There were too many statements.
        return again(rng, rounds)


def links(rng, name, sort, fields):
    """Statements that make an object and hang it on a list of objects, at one end or at both ends."""
    field, other = rng.choice(fields), rng.choice(fields)
    head = [("new", "n", sort), ("store", "n", field, name), ("copy", name, "n")]
    tail = [("new", "n", sort), ("store", name, field, "n"), ("copy", name, "n")]
    both = [("new", "n", sort), ("store", "n", field, name), ("store", name, other, "n"), ("copy", name, "n")]
    more = [("new", "n", sort), ("load", "m", name, field), ("store", "n", field, "m"), ("store", name, field, "n")]
    wide = head + [("new", "m", sort), ("store", "n", other, "m")]
    ways = [head, head, tail, both, more, wide]
    if rng.random() < 0.2:
        return [("repeat", rng.choice([1, 2, 3, 7]), rng.choice(ways))]
    return rng.choice(ways)


def queue(rng, sort, field, is_ring):
    """Statements that make a queue of a few objects from h to y, or a ring."""
    block = [("new", "y", sort), ("copy", "h", "y")]
    for _ in range(rng.randint(1, 3)):
        block += [("new", "n", sort), ("store", "y", field, "n"), ("copy", "y", "n")]
    return block + ([("store", "y", field, "h"), ("clear", "n")] if is_ring else [])


def growing_program(rng, rounds):
    """A program with a repeat in which lists of objects grow."""
    classes = [("a", rng.choice([1, 2]), rng.sample(FIELDS, rng.randint(1, 2)), rng.random() < 0.3),
               ("b", rng.choice([1, 2, 3]), rng.sample(FIELDS, rng.randint(1, 3)), rng.random() < 0.3)]
    fields = [name for name in classes[0][2] if name in classes[1][2]] or classes[0][2]
    sorts = ["a", "b"] if fields[0] in classes[1][2] else ["a"]
    weak = ["w"] if rng.random() < 0.4 else []
    threshold, radices = rng.choice([(1, []), (2, []), (3, []), (2, [2]), (1, [2]), (1, [3]), (1, [2, 2])])
    maker = Maker(rng, classes, weak, len(radices))
    names = ["x", "y", "n", "m", "h"]
    body = [("new", "x", rng.choice(sorts)), ("new", "y", "a")]
    if rng.random() < 0.4:
        body += maker.block(names, 0, 2)
        body += [("ifnil", name, [("new", name, "a")], []) for name in ["x", "y"]]
    for _ in range(rng.choice([1, 1, 1, 2])):
        block = []
        for _ in range(rng.randint(1, 2)):
            block += links(rng, rng.choice(["x", "x", "y"]), rng.choice(sorts), fields)
            if rng.random() < 0.4:
                block.append(rng.choice([("clear", "n"), ("clear", "m"), ("emit", "n"), ("tag", "n", "t"), ("emit", "x")]))
            if rng.random() < 0.25:
                block.append(maker.simple(["n", "m"]))
        if rng.random() < 0.3:
            swap = [("copy", "m", "x"), ("copy", "x", "y"), ("copy", "y", "m"), ("clear", "m")]
            block += swap if rng.random() < 0.5 else swap[1:]
        if rng.random() < 0.4:
            # A queue or a ring that moves on in a repeat within the repeat.
            field = rng.choice(fields)
            turn = [("new", "m", sorts[0]), ("store", "y", field, "m"), ("copy", "y", "m"), ("load", "h", "h", field)]
            if rng.random() < 0.4:
                turn = [("load", "h", "h", field)]
            if rng.random() < 0.3:
                turn.append(rng.choice([("emit", "h"), ("clear", "m"), ("tag", "h", "u")]))
            block.insert(rng.randint(0, 1) * len(block), ("repeat", rng.choice([2, 3, 5, 7, 9]), turn))
            body += queue(rng, sorts[0], field, turn[0][0] == "load")
        body.append(("repeat", rounds, block))
        body += [("clear", "n")] * rng.randint(0, 1) + maker.block(names, 0, 2) * rng.randint(0, 1)
        if rng.random() < 0.3:
            body.append(("repeat", 9, maker.block(["n", "m"], 1, 3)))
    return made_or_again(rng, rounds, growing_program, classes, body, maker, names, weak, threshold, radices)


def ring_program(rng, rounds):
    """A program in which rings of objects are made and let go."""
    classes = [("a", 1, ["left", "right"], rng.random() < 0.3), ("b", 2, ["left"], rng.random() < 0.5)]
    threshold, radices = rng.choice([(2, [2]), (1, [2, 2]), (2, [2, 2]), (3, [2]), (1, [3, 2]), (1, [2, 3]), (1, [2, 2, 2])])
    names = ["x", "y", "z"]
    block = []
    for _ in range(rng.randint(4, 9)):
        one, other = rng.choice(names), rng.choice(names)
        field = rng.choice(["left", "right"])
        store = ("ifnil", one, [("new", one, "a")], [("store", one, field if field == "left" else "left", other)])
        chance = rng.random()
        if chance < 0.25:
            block.append(("new", one, rng.choice("aab")))
        elif chance < 0.6:
            block.append(store)
        elif chance < 0.75:
            block += [("new", one, "a"), ("store", one, field, one), ("store", one, "left" if field == "right" else "right", other)]
        else:
            block.append(rng.choice([("clear", one), ("copy", one, other), ("clear", one)]))
    if rng.random() < 0.4:
        block.insert(rng.randint(0, len(block)), ("collect", rng.randint(0, len(radices))))
    return Program(classes, [("repeat", rounds, block)], variables=names, weak=[], threshold=threshold, radices=radices, functions=[])


def holding_program(rng, rounds):
    """A program with a ring that refers to an object of a list that grows, and is let go behind it."""
    both = ("both", 1, ["next", "other"], rng.random() < 0.5)
    push = [("new", "y", "node"), ("store", "y", "next", "x"), ("copy", "x", "y")]
    hold = ("ifnil", "u", [("store", "h", "other", "y"), ("copy", "u", "y")], [])
    begin = [("new", "h", "both"), ("store", "h", "next", "h"), ("new", "v", "both"), ("store", "v", "next", "v"), ("store", "v", "other", "h")]
    threshold, radices = rng.choice([(2, [2]), (3, []), (2, []), (1, [2, 2]), (1, [3])])
    end = [("clear", "y"), ("clear", "v"), ("clear", "h"), ("wipe", "v", "next"), ("wipe", "v", "other")]
    body = begin[:rng.choice([2, 5])] + [("collect", 0)] * rng.randint(0, 3) + [("repeat", rounds, push + [hold])]
    names = [statement[1] for statement in begin if statement in body]
    body += rng.sample([statement for statement in end if statement[1] in names + ["y"]], rng.choice([2, 2, 3]) if "v" in names else 2)
    return Program([("node", 1, ["next"], False), both], body, variables=["x", "y", "u", "h", "v"], weak=[], threshold=threshold, radices=radices, functions=[])
