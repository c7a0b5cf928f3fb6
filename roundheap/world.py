"""What a program says of its classes, functions and collections, made ready for doing it."""


class Sort:
    """A class of objects."""

    def __init__(self, size, fields, final):
        self.size = size
        self.fields = fields
        self.final = final


class Task:
    """A function: its variables, parameters first, how many of them are parameters, its body and its result."""

    def __init__(self, names, parameters, text, result):
        self.names = names
        self.parameters = parameters
        self.text = text
        self.result = result


class World:
    """A program, told as its statements need it; it never changes."""

    def __init__(self, program):
        self.program = program
        self.sorts = {name: Sort(size, tuple(fields), final) for name, size, fields, final in program.classes()}
        self.tasks = {}
        for name, parameters, inner, text, result in program.functions():
            self.tasks[name] = Task(parameters + inner, len(parameters), text, result)
        self.text = program.body()
        self.names = program.variables()
        self.faint = program.weak()
        self.pace = program.threshold()
        self.bases = program.radices()
        self.oldest = len(self.bases)
        self.phases = self.pace
        for radix in self.bases:
            self.phases *= radix


def names_of(world, function):
    """The names of the variables of a function, or of the program for None."""
    return world.names if function is None else world.tasks[function].names


def stride_of(world, level):
    """By how many a numbered collection of at least this level is followed by the next one."""
    stride = 1
    for radix in world.bases[:level]:
        stride *= radix
    return stride


def level_of(world, number):
    """The level of the numbered collection with a number."""
    level = 0
    while level < world.oldest and number % stride_of(world, level + 1) == 0:
        level += 1
    return level
