"""What a statement must look like, and how the blocks of a body are looked through."""

from roundheap.checks import is_name, is_one_of, is_within

MOST_ROUNDS = 10 ** 30
MOST_STATEMENTS = 60
DEEPEST_BLOCK = 60
DEEPEST_REPEAT = 3

# The kinds of the words behind the first one. A call is not here: its words depend on one another.
FORMS = {
    "new": ("variable", "class"),
    "copy": ("variable", "variable"),
    "clear": ("variable",),
    "load": ("variable", "variable", "field"),
    "store": ("variable", "field", "variable"),
    "wipe": ("variable", "field"),
    "tag": ("variable", "name"),
    "emit": ("variable",),
    "weak": ("weak", "variable"),
    "get": ("variable", "weak"),
    "collect": ("level",),
    "ifnil": ("variable", "block", "block"),
    "ifsame": ("variable", "variable", "block", "block"),
    "repeat": ("times", "block"),
}


class Scope:
    """What the statements of one body may name; a call is told by (parameters, whether it has a result, depth)."""

    def __init__(self, class_names, field_names, variable_names, weak_names, levels, calls):
        self.class_names = class_names
        self.field_names = field_names
        self.variable_names = variable_names
        self.weak_names = weak_names
        self.levels = levels
        self.calls = calls


class Survey:
    """What is seen in a body: the place of its first invalid statement or None, how many, and how deep repeats are.

    `buried` tells whether a block was nested too deep to be looked into.
    """

    def __init__(self, place, many, depth, buried):
        self.place = place
        self.many = many
        self.depth = depth
        self.buried = buried


def fits(kind, value, scope):
    """Whether a word of a statement is of its kind; blocks are looked into later."""
    if kind == "block":
        return True
    if kind == "times":
        return is_within(value, 0, MOST_ROUNDS)
    if kind == "level":
        return is_within(value, 0, scope.levels)
    if kind == "variable":
        return is_one_of(value, scope.variable_names)
    if kind == "weak":
        return is_one_of(value, scope.weak_names)
    if kind == "class":
        return is_one_of(value, scope.class_names)
    if kind == "field":
        return is_one_of(value, scope.field_names)
    return is_name(value)


def fits_call(words, scope, repeats):
    """Whether these are the words of a call that may stand within so many repeats."""
    if len(words) != 3:
        return False
    target, name, arguments = words
    if not is_one_of(name, scope.calls):
        return False
    many, has_result, depth = scope.calls[name]
    if target is not None and not (has_result and fits("variable", target, scope)):
        return False
    if not isinstance(arguments, list) or len(arguments) != many:
        return False
    if not all([fits("variable", argument, scope) for argument in arguments]):
        return False
    return repeats + depth <= DEEPEST_REPEAT


def fits_form(statement, scope, repeats):
    """Whether a value is a statement that may stand within so many repeats, its blocks left aside."""
    if not isinstance(statement, tuple) or len(statement) == 0:
        return False
    word = statement[0]
    words = statement[1:]
    if not isinstance(word, str):
        return False
    if word == "call":
        return fits_call(words, scope, repeats)
    if word not in FORMS:
        return False
    kinds = FORMS[word]
    if len(words) != len(kinds):
        return False
    if word == "repeat" and repeats == DEEPEST_REPEAT:
        return False
    return all([fits(kind, value, scope) for kind, value in zip(kinds, words)])


def depth_of(statement, scope, repeats):
    """How deep repeats are at a valid statement that stands within so many."""
    if statement[0] == "repeat":
        return repeats + 1
    if statement[0] == "call":
        return repeats + scope.calls[statement[2]][2]
    return repeats


def blocks_of(statement, place):
    """The blocks of a valid statement with what stands ahead of the places in them; the last block first."""
    if statement[0] == "repeat":
        return [(statement[2], place)]
    if statement[0] == "ifnil" or statement[0] == "ifsame":
        return [(statement[-1], place + (1,)), (statement[-2], place + (0,))]
    return []


def survey(body, scope):
    """Look through a body in the order of its text, up to the first invalid statement."""
    many = 0
    depth = 0
    buried = False
    # Blocks on the way: block, the place ahead, in how many blocks and repeats it stands, the next index.
    ways = [(body, (), 0, 0, 0)]
    while ways:
        block, ahead, nested, repeats, index = ways.pop()
        if nested > DEEPEST_BLOCK:
            many += MOST_STATEMENTS + 1
            buried = True
            continue
        if not isinstance(block, list):
            return Survey(ahead, many, depth, buried)
        if index == len(block):
            continue
        statement = block[index]
        place = ahead + (index,)
        if not fits_form(statement, scope, repeats):
            return Survey(place, many, depth, buried)
        many += 1
        depth = max(depth, depth_of(statement, scope, repeats))
        ways.append((block, ahead, nested, repeats, index + 1))
        inner = repeats + 1 if statement[0] == "repeat" else repeats
        for part, start in blocks_of(statement, place):
            ways.append((part, start, nested + 1, inner, 0))
    return Survey(None, many, depth, buried)


def copied_block(block):
    """A valid block in new lists; one call for each block keeps the recursion as shallow as the blocks."""
    rows = []
    for statement in block:
        words = []
        for word in statement:
            if isinstance(word, list):
                words.append(list(word) if statement[0] == "call" else copied_block(word))
            else:
                words.append(word)
        rows.append(tuple(words))
    return rows
