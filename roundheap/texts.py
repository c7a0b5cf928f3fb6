"""Texts of programs."""

from roundheap.checks import is_name
from roundheap.errors import InvalidText
from roundheap.lines import Sheet, blanks_ahead, check_first, check_rest, check_words, next_heading
from roundheap.programs import Program
from roundheap.statements import FORMS

DEEPEST_LINES = 60


def program_text(program):
    """The text of a program."""
    lines = []
    for name, size, fields, final in program.classes():
        lines.append(" ".join(["final" if final else "class", name, str(size)] + fields))
    lines.append("threshold " + str(program.threshold()))
    lines.append(" ".join(["radices"] + [str(radix) for radix in program.radices()]))
    lines.append(" ".join(["variables"] + program.variables()))
    lines.append(" ".join(["weak"] + program.weak()))
    for name, parameters, inner, body, result in program.functions():
        end = [] if result is None else [">", result]
        lines.append(" ".join(["function", name] + parameters + [":"] + inner + end))
        put_block(lines, body, "  ")
    lines.append("body")
    put_block(lines, program.body(), "  ")
    return "\n".join(lines)


def put_block(lines, block, ahead):
    """Put the lines of a block behind others; one call for each block keeps the recursion as shallow as the blocks."""
    for statement in block:
        lines.append(ahead + " ".join(words_of(statement)))
        word = statement[0]
        if word == "repeat":
            put_block(lines, statement[2], ahead + "  ")
        elif word == "ifnil" or word == "ifsame":
            put_block(lines, statement[-2], ahead + "  ")
            if statement[-1]:
                lines.append(ahead + "else")
                put_block(lines, statement[-1], ahead + "  ")


def words_of(statement):
    """The words of the line of a statement."""
    if statement[0] == "call":
        _, target, name, arguments = statement
        return ["call", "-" if target is None else target, name] + arguments
    return [str(word) for word in statement if not isinstance(word, list)]


def read_program(text):
    """The program of a text; the text may be of any kind."""
    if not isinstance(text, str):
        raise InvalidText(-1, -1)
    sheet = Sheet(text)
    classes = read_classes(sheet)
    threshold = read_numbers(sheet, "threshold", 1)[0]
    radices = read_numbers(sheet, "radices", None)
    variables = read_names(sheet, "variables")
    weak = read_names(sheet, "weak")
    functions = []
    while next_heading(sheet, ("function", "body"))[0] == "function":
        functions.append(read_function(sheet))
    check_words(sheet.at, next_heading(sheet, ("body",)), 1, [])
    sheet.at += 1
    body = read_block(sheet, True)
    return Program(
        classes, body, variables=variables, weak=weak, threshold=threshold, radices=radices, functions=functions,
    )


def read_classes(sheet):
    classes = []
    words = next_heading(sheet, ("class", "final"))
    while words[0] != "threshold":
        check_first(sheet.at, words, 1, ["name", "number"])
        check_rest(sheet.at, words, 3, "name")
        classes.append((words[1], int(words[2]), words[3:], words[0] == "final"))
        sheet.at += 1
        words = next_heading(sheet, ("class", "final", "threshold"))
    return classes


def read_numbers(sheet, first, many):
    """The numbers of a line that begins with a word: so many, or any number of them."""
    words = next_heading(sheet, (first,))
    if many is None:
        check_rest(sheet.at, words, 1, "number")
    else:
        check_words(sheet.at, words, 1, ["number"] * many)
    sheet.at += 1
    return [int(word) for word in words[1:]]


def read_names(sheet, first):
    words = next_heading(sheet, (first,))
    check_rest(sheet.at, words, 1, "name")
    sheet.at += 1
    return words[1:]


def read_function(sheet):
    words = next_heading(sheet, ("function",))
    check_first(sheet.at, words, 1, ["name"])
    colon = end_of_names(sheet.at, words, 2, (":",))
    if colon == len(words):
        raise InvalidText(sheet.at, colon)
    end = end_of_names(sheet.at, words, colon + 1, (">",))
    result = None
    if end < len(words):
        check_words(sheet.at, words, end + 1, ["name"])
        result = words[end + 1]
    sheet.at += 1
    return (words[1], words[2:colon], words[colon + 1:end], read_block(sheet, False), result)


def end_of_names(at, words, first, signs):
    """The index of the first word from one on that is a sign; behind the last word if all are names."""
    index = first
    while index < len(words) and words[index] not in signs:
        if not is_name(words[index]):
            raise InvalidText(at, index)
        index += 1
    return index


class Level:
    """An open block; `other` is the second block of its last statement, if this is an if without an else."""

    def __init__(self, block):
        self.block = block
        self.other = None


def read_block(sheet, is_last):
    """The block that stands in the next lines with blanks ahead; behind the last one there may be no other line."""
    levels = [Level([])]
    while sheet.at < len(sheet.lines):
        line = sheet.lines[sheet.at]
        blanks = blanks_ahead(line)
        depth, rest = divmod(blanks, 2)
        if blanks == 0:
            if is_last:
                raise InvalidText(sheet.at, 0)
            break
        if rest > 0 or depth > len(levels):
            raise InvalidText(sheet.at, -1)
        del levels[depth:]
        inner = read_line(sheet.at, line[blanks:].split(" "), levels[-1])
        # A block that is too deep has no lines.
        if inner is not None and depth < DEEPEST_LINES:
            levels.append(Level(inner))
        sheet.at += 1
    return levels[0].block


def read_line(at, words, level):
    """Put the statement of a line into its block; the block whose lines may follow, or None."""
    word = words[0]
    if word == "else" and level.other is not None:
        check_words(at, words, 1, [])
        other = level.other
        level.other = None
        return other
    level.other = None
    if word == "call":
        check_first(at, words, 1, ["target", "name"])
        check_rest(at, words, 3, "name")
        level.block.append(("call", None if words[1] == "-" else words[1], words[2], words[3:]))
        return None
    if word not in FORMS:
        raise InvalidText(at, 0)
    kinds = [kind for kind in FORMS[word] if kind != "block"]
    is_numbered = [kind == "times" or kind == "level" for kind in kinds]
    check_words(at, words, 1, ["number" if numbered else "name" for numbered in is_numbered])
    parts = tuple([int(part) if numbered else part for part, numbered in zip(words[1:], is_numbered)])
    blocks = [[] for kind in FORMS[word] if kind == "block"]
    level.block.append((word,) + parts + tuple(blocks))
    level.other = blocks[1] if len(blocks) == 2 else None
    return blocks[0] if blocks else None
