"""A plain memory: programs of few rounds played to the end, round by round, by the words of the document alone."""

import copy


# What grows with each statement, and is not needed to go on.
SEEN = ("seen", "repeats", "births", "deaths", "sweeps", "order", "ahead", "copies", "wanted", "log", "freed")


class Ended(Exception):
    """The run fails at a spot."""


class Touched(Exception):
    """A statement at a spot touches a retired object."""


class Repeat:
    """A repeat that was played: what was seen behind each of its rounds, and what it was found to do."""

    def __init__(self, spot, times):
        self.spot, self.times = spot, times
        self.snaps, self.touched, self.states, self.lists = [], [], [], []
        self.rhythm = None
        self.begun = 0


class Plain:
    """Plays a program; `seen` has what there is at each spot, `repeats` what each repeat at a spot did."""

    def __init__(self, program, memory=None):
        self.program = program
        self.classes = {name: (size, fields, final) for name, size, fields, final in program.classes()}
        self.functions = {row[0]: row[1:] for row in program.functions()}
        self.last = len(program.radices())
        self.modulus = program.threshold()
        for radix in program.radices():
            self.modulus *= radix
        self.objects, self.log, self.news, self.steps, self.work = {}, [], 0, 0, 0
        self.calls = [(None, {name: None for name in program.variables()})]
        self.weak = {name: None for name in program.weak()}
        self.pools = {size: [] for size in range(1, 9)}
        self.fresh = {size: 0 for size in range(1, 9)}
        self.peak = [0, 0]
        self.made = {name: 0 for name in self.classes}
        # Objects that are told as retired; those that must not be touched, as their repeat is over.
        self.retired, self.barred = [], []
        self.touched = set()
        self.known = 0
        self.seen, self.repeats = {}, {}
        self.freed = []
        self.spot = ()
        self.end = ("done",)

    # References and objects

    def touch(self, number):
        if number in self.barred:
            raise Touched(self.spot)
        if number is not None:
            self.touched.add(number)

    def references(self, number):
        count = sum(held[name] == number for _, held in self.calls for name in held)
        return count + sum(value == number for row in self.objects.values() for value in row["fields"].values())

    def let_go(self, number):
        """A reference to an object has ended."""
        self.touch(number)
        if number is not None and number in self.objects and number not in self.freeing:
            if self.references(number) == 0:
                self.release(number)

    freeing = ()

    def release(self, number):
        row = self.objects[number]
        self.touch(number)
        self.freeing = self.freeing + (number,)
        if self.classes[row["class"]][2]:
            self.log.append(("final", row["tag"]))
        for name in self.weak:
            if self.weak[name] == number:
                self.weak[name] = None
        for name in list(row["fields"]):
            value = row["fields"][name]
            row["fields"][name] = None
            self.let_go(value)
        self.pools[row["address"][0]].insert(0, row["address"][1])
        self.freed.append(number)
        del self.objects[number]
        self.freeing = self.freeing[:-1]

    def put(self, held, name, value):
        self.touch(value)
        old = held[name]
        held[name] = value
        self.let_go(old)

    def reach(self, roots, barred=()):
        reached, ways = set(), [number for number in roots if number is not None and number not in barred]
        while ways:
            number = ways.pop()
            if number not in reached:
                reached.add(number)
                ways.extend(value for value in self.objects[number]["fields"].values()
                            if value is not None and value not in barred)
        return reached

    def roots(self):
        return [value for _, held in self.calls for value in held.values()]

    def collect(self, level):
        if level == self.last:
            sure = self.reach(self.roots(), self.barred)
            for number, row in self.objects.items():
                if number not in self.barred and number not in sure:
                    if any(value in self.barred for value in row["fields"].values()):
                        raise Touched(self.spot)
        older = [number for number, row in self.objects.items() if row["generation"] > level]
        kept = self.reach(self.roots() + older + list(self.retired))
        lost = sorted(number for number, row in self.objects.items() if row["generation"] <= level and number not in kept)
        for number in lost:
            for name, value in self.objects[number]["fields"].items():
                if value in lost:
                    self.objects[number]["fields"][name] = None
        for number in lost:
            self.release(number)
        for number, row in self.objects.items():
            if row["generation"] <= level and row["generation"] != min(level + 1, self.last):
                self.touch(number)
                row["generation"] = min(level + 1, self.last)

    # Statements

    def simple(self, statement, spot):
        self.spot = spot
        if not self.known:
            self.work += 1
        word = statement[0]
        held = self.calls[-1][1]
        if word == "new":
            size, fields, _ = self.classes[statement[2]]
            number = self.news
            self.news += 1
            self.made[statement[2]] += 1
            if self.pools[size]:
                place = self.pools[size].pop(0)
            else:
                place = self.fresh[size]
                self.fresh[size] += 1
            self.objects[number] = {"class": statement[2], "tag": statement[2], "generation": 0, "address": (size, place),
                                    "fields": {name: None for name in fields}}
            self.touch(number)
            self.put(held, statement[1], number)
            if self.news % self.program.threshold() == 0:
                self.numbered(self.news // self.program.threshold())
        elif word == "copy":
            self.put(held, statement[1], held[statement[2]])
        elif word == "clear":
            self.put(held, statement[1], None)
        elif word == "load":
            fields = self.fields(held[statement[2]], statement[3], spot)
            self.put(held, statement[1], fields[statement[3]])
        elif word == "store":
            fields = self.fields(held[statement[1]], statement[2], spot)
            self.put(fields, statement[2], held[statement[3]])
        elif word == "wipe":
            fields = self.fields(held[statement[1]], statement[2], spot)
            self.put(fields, statement[2], None)
        elif word == "tag":
            self.touch(held[statement[1]])
            if held[statement[1]] is None:
                raise Ended(spot)
            self.objects[held[statement[1]]]["tag"] = statement[2]
        elif word == "emit":
            number = held[statement[1]]
            self.touch(number)
            self.log.append(("emit", None if number is None else self.objects[number]["tag"]))
        elif word == "weak":
            self.touch(held[statement[2]])
            self.weak[statement[1]] = held[statement[2]]
        elif word == "get":
            self.put(held, statement[1], self.weak[statement[2]])
        else:
            self.collect(statement[1])
        self.steps += 1
        self.peak[0] = max(self.peak[0], len(self.objects))
        self.peak[1] = max(self.peak[1], self.units())

    def fields(self, number, field, spot):
        self.touch(number)
        if number is None or field not in self.objects[number]["fields"]:
            raise Ended(spot)
        return self.objects[number]["fields"]

    def numbered(self, number):
        level = 0
        product = 1
        for index, radix in enumerate(self.program.radices()):
            product *= radix
            if number % product == 0:
                level = index + 1
        self.collect(level)

    def units(self):
        return sum(row["address"][0] for row in self.objects.values())

    # Blocks

    def play(self):
        try:
            self.block(self.program.body(), ())
        except Ended as error:
            self.end = ("failed", error.args[0])
        return self

    def block(self, block, path):
        for index, statement in enumerate(block):
            spot = path + (index,)
            self.look(spot)
            word = statement[0]
            if word == "repeat":
                self.repeat(statement, spot)
            elif word == "call":
                self.call(statement, spot)
            elif word in ("ifnil", "ifsame"):
                held = self.calls[-1][1]
                number = held[statement[1]]
                other = None
                if word == "ifsame":
                    other = held[statement[2]]
                    self.spot = spot
                    self.touch(number)
                    self.touch(other)
                way = 0 if number == other else 1
                self.block(statement[-2:][way], spot + (way,))
            else:
                self.simple(statement, spot)
        self.look(path + (len(block),))

    def call(self, statement, spot):
        _, target, name, arguments = statement
        parameters, inner, body, result = self.functions[name]
        self.spot = spot
        values = [self.calls[-1][1][argument] for argument in arguments]
        for value in values:
            self.touch(value)
        held = dict.fromkeys(parameters + inner)
        held.update(zip(parameters, values))
        self.calls.append((name, held))
        self.block(body, spot)
        self.spot = spot + (len(body),)
        if target is not None:
            self.put(self.calls[-2][1], target, held[result])
        for variable in parameters + inner:
            self.put(held, variable, None)
        self.calls.pop()

    def repeat(self, statement, spot):
        repeat = Repeat(spot, statement[1])
        repeat.before = list(self.barred)
        self.repeats[spot] = repeat
        self.behind(repeat)
        outer, known = self.touched, self.known
        for number in range(statement[1]):
            self.touched = set()
            repeat.begun += 1
            if len(spot) == 1:
                self.retire(repeat, number, statement[2])
            try:
                self.block(statement[2], spot + (number,))
            finally:
                outer |= self.touched
            repeat.touched.append(self.touched)
            self.behind(repeat)
            if repeat.rhythm is None:
                self.find(repeat)
                if repeat.rhythm is not None:
                    self.known += 1
        self.touched, self.known = outer, known
        if len(spot) == 1:
            self.retire(repeat, statement[1], statement[2])
            self.barred = list(self.retired)

    def behind(self, repeat):
        repeat.states.append(self.state())
        repeat.snaps.append((copy.deepcopy(self.objects), copy.deepcopy(self.calls[0][1]), dict(self.weak), self.news,
                             self.steps, len(self.log)))

    def state(self):
        order = [number for number in sorted(self.objects) if number not in self.retired]
        def place(value):
            return "retired" if value in self.retired else None if value is None else order.index(value)
        rows = []
        for number in order:
            row = self.objects[number]
            kept = any(number in self.objects[other]["fields"].values() for other in self.retired)
            rows.append((row["class"], row["tag"], row["generation"], kept,
                         tuple((name, place(value)) for name, value in row["fields"].items())))
        calls = tuple(tuple((name, place(value)) for name, value in held.items()) for _, held in self.calls)
        weak = tuple((name, place(value)) for name, value in self.weak.items())
        return (self.news % self.modulus, tuple(rows), calls, weak)

    # Rhythms and growth

    def find(self, repeat):
        done = len(repeat.states) - 1
        if repeat.states[done] in repeat.states[:done]:
            first = repeat.states.index(repeat.states[done])
            repeat.rhythm = ("returns", first, done - first, done)
        elif len(repeat.spot) == 1 and self.grows:
            for period in range(1, done // 2 + 1):
                if self.fault(repeat, done - 2 * period, period) is None:
                    repeat.rhythm = ("grows", done - 2 * period, period, done)
                    return

    grows = True

    def parts(self, repeat, number, period):
        """(objects, A, S) behind a number of rounds, by the touches of the next period."""
        objects = repeat.snaps[number][0]
        touched = set().union(*repeat.touched[number:number + period])
        begun = repeat.snaps[0][3]
        own = [other for other in sorted(objects) if other < begun or other in touched]
        own = [other for other in own if other not in repeat.before]
        left = [other for other in sorted(objects) if other not in own and other not in repeat.before]
        return objects, own, left

    def fault(self, repeat, first, period):
        last = first + period
        one, other = repeat.snaps[first], repeat.snaps[last]
        if (other[3] - one[3]) % self.modulus:
            return "phase"
        if len(other[0]) <= len(one[0]):
            return "size"
        rows, own, left = self.parts(repeat, first, period)
        more, fellows, lefts = self.parts(repeat, last, period)
        begun = repeat.snaps[0][3]
        if len(own) != len(fellows) or sum(n < begun for n in own) != sum(n < begun for n in fellows):
            return "objects"
        def same(value, twin):
            if value is None or twin is None:
                return value is twin
            if value in repeat.before or twin in repeat.before:
                return value in repeat.before and twin in repeat.before
            if value in own and twin in fellows:
                return own.index(value) == fellows.index(twin)
            return value in left and twin in lefts
        for number, twin in zip(own, fellows):
            row, other_row = rows[number], more[twin]
            if any(row[word] != other_row[word] for word in ("class", "tag", "generation")):
                return "objects"
            if not all(same(row["fields"][name], other_row["fields"][name]) for name in row["fields"]):
                return "objects"
            if any(number in rows[old]["fields"].values() for old in repeat.before) != any(
                    twin in more[old]["fields"].values() for old in repeat.before):
                return "objects"
        if not all(same(one[at][name], other[at][name]) for at in (1, 2) for name in one[at]):
            return "objects"
        leads, any_refers, _ = self.ways(one, rows, own, left)
        leads_later, any_later, reached = self.ways(other, more, fellows, lefts)
        if leads != leads_later or any_refers != any_later:
            return "entries"
        if any(rows[n]["generation"] != self.last for n in left) or any(more[n]["generation"] != self.last for n in lefts):
            return "old"
        if reached != set(lefts):
            return "reached"
        if set(left) & set(fellows):
            return "left"
        return None

    def ways(self, snap, rows, own, left):
        """(entries that lead to each object of A, which of these S refers to, what is reached of S)"""
        entries = [(("variable", name), value) for name, value in snap[1].items() if value in left]
        for index, number in enumerate(own):
            entries += [((index, name), value) for name, value in rows[number]["fields"].items() if value in left]
        leads, reached = {}, set()
        for entry, start in entries:
            mine, ways = set(), [start]
            while ways:
                number = ways.pop()
                if number in mine:
                    continue
                mine.add(number)
                ways += [value for value in rows[number]["fields"].values() if value in left]
            reached |= mine
            for number in mine:
                for value in rows[number]["fields"].values():
                    if value in own:
                        leads.setdefault(own.index(value), set()).add(entry)
        refers = {own.index(value) for n in left for value in rows[n]["fields"].values() if value in own}
        return leads, refers, reached

    def lean_copy(self):
        """A copy of what there is now, without what was seen before; the log is not copied but begun anew."""
        kept = {name: self.__dict__[name] for name in SEEN if name in self.__dict__}
        self.__dict__.update((name, type(value)()) for name, value in kept.items())
        same = (self.program, self.classes, self.functions)
        try:
            return copy.deepcopy(self, {id(part): part for part in same})
        finally:
            self.__dict__.update(kept)

    def retire(self, repeat, number, block):
        """Which objects are retired behind a number of rounds of a repeat that grows."""
        if repeat.rhythm is None or repeat.rhythm[0] != "grows" or number <= repeat.rhythm[3]:
            return
        _, first, period, _ = repeat.rhythm
        middle = first + period
        start = middle + (number - middle) // period * period
        touched = repeat.touched[start:start + period]
        if len(touched) < period:
            further = self.lean_copy()
            further.retired = list(repeat.before)
            further.grows = False
            while len(touched) < period:
                further.touched = set()
                further.block(block, repeat.spot + (10 ** 6,))
                touched = touched + [further.touched]
        hit = set().union(*touched)
        begun = repeat.snaps[0][3]
        self.retired = repeat.before + [n for n in sorted(repeat.snaps[start][0]) if n >= begun and n not in hit]

    # What there is at a spot

    def look(self, spot):
        def told(value):
            return "retired" if value in self.retired else value
        rows = {}
        for number, row in sorted(self.objects.items()):
            if number not in self.retired:
                fields = {name: told(value) for name, value in row["fields"].items()}
                rows[number] = (row["class"], row["tag"], fields, row["generation"], row["address"])
        pools = {}
        for size in range(1, 9):
            free, behind = list(self.pools[size]), self.fresh[size]
            while free and free[-1] == behind - 1:
                free.pop()
                behind -= 1
            pools[size] = (free, behind)
        units = sum(self.objects[number]["address"][0] for number in self.retired)
        self.seen[spot] = {
            "rows": rows, "variables": {name: told(value) for name, value in self.calls[-1][1].items()},
            "weak": {name: told(value) for name, value in self.weak.items()}, "pools": pools, "news": self.news,
            "log": len(self.log), "steps": self.steps, "peak": tuple(self.peak), "count": len(self.objects),
            "units": self.units(), "retired": (len(self.retired), units), "made": dict(self.made),
            "depth": len(self.calls),
        }
