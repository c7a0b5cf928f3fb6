"""A plain memory that also tells where objects are made and freed, and what each collection does."""

from plain import Plain


class Living(Plain):
    """`births` and `deaths` lead from numbers of objects to spots; `sweeps` has what collections did."""

    def __init__(self, program, memory=None):
        super().__init__(program, memory)
        self.births, self.deaths, self.sweeps, self.order = {}, {}, [], []
        self.collecting = None

    def simple(self, statement, spot):
        if statement[0] == "new":
            size = self.classes[statement[2]][0]
            place = self.pools[size][0] if self.pools[size] else self.fresh[size]
            self.births[self.news] = (spot, statement[2], (size, place))
        super().simple(statement, spot)
        self.order.append(self.done(statement, spot))

    def done(self, statement, spot):
        """What is remembered of a step behind it."""
        return spot

    def numbered(self, number):
        self.which = number
        super().numbered(number)
        self.which = None

    which = None

    def collect(self, level):
        rows = {number: row["generation"] for number, row in self.objects.items() if number not in self.retired}
        self.collecting = {"where": self.spot, "which": self.which, "level": level, "lost": [], "freed": [],
                           "looked": sorted(number for number in rows if rows[number] <= level), "written": len(self.log)}
        super().collect(level)
        sweep, self.collecting = self.collecting, None
        sweep["fallen"] = [number for number in sweep["freed"] if number not in sweep["lost"]]
        sweep["entries"] = self.log[sweep.pop("written"):]
        sweep["aged"] = [(number, rows[number], self.objects[number]["generation"]) for number in sweep["looked"]
                         if number in self.objects]
        self.sweeps.append(sweep)

    def release(self, number):
        own = self.collecting is not None and self.freeing == ()
        self.deaths[number] = (self.spot, "collection" if own else "count")
        if self.collecting is not None:
            self.collecting["freed"].append(number)
            if own:
                self.collecting["lost"].append(number)
        super().release(number)
