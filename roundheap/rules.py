"""Rules that make blocks simpler."""

from roundheap.statements import MOST_ROUNDS

# A statement with one of these words does nothing more directly behind an equal one.
ONCE = ("copy", "clear", "store", "wipe", "tag", "weak", "get", "collect")


def simple_block(program, block):
    """A block to which none of the rules applies, in a new list; the functions of the program are not changed."""
    rows = []
    for statement in block:
        for row in simple_rows(program, with_simple_blocks(program, statement)):
            put_row(rows, row)
    return rows


def with_simple_blocks(program, statement):
    """A statement with its blocks made simple; one call for each block keeps the recursion as shallow as the blocks."""
    word = statement[0]
    if word == "repeat":
        return (word, statement[1], simple_block(program, statement[2]))
    if word == "ifnil" or word == "ifsame":
        return statement[:-2] + (simple_block(program, statement[-2]), simple_block(program, statement[-1]))
    return statement


def is_empty_call(program, statement):
    if statement[0] != "call" or statement[1] is not None:
        return False
    return any([name == statement[2] and not text for name, _, _, text, _ in program.functions()])


def simple_rows(program, statement):
    """The statements that stand for one, whose blocks are simple."""
    word = statement[0]
    if word == "copy" and statement[1] == statement[2] or is_empty_call(program, statement):
        return []
    if word == "ifnil" or word == "ifsame":
        return [statement] if statement[-2] or statement[-1] else []
    if word != "repeat":
        return [statement]
    _, times, block = statement
    if times == 0 or not block:
        return []
    if len(block) == 1 and block[0][0] == "repeat" and times * block[0][1] <= MOST_ROUNDS:
        return [("repeat", times * block[0][1], block[0][2])]
    return block if times == 1 else [statement]


def is_clear_ahead(statement, row):
    """Whether a statement clears a variable that another one, directly behind it, gives a value anyway."""
    if statement[0] != "clear" or row[0] not in ("new", "copy") or row[1] != statement[1]:
        return False
    return row[0] == "new" or row[2] != statement[1]


def is_done_twice(statement, row):
    """Whether a statement directly behind another one does nothing more."""
    if statement != row:
        return False
    return row[0] in ONCE or row[0] == "load" and row[1] != row[2]


def put_row(rows, row):
    """Put a statement behind others to which none of the rules applies, so that none applies to all of them."""
    while rows and is_clear_ahead(rows[-1], row):
        rows.pop()
    if not rows or not is_done_twice(rows[-1], row):
        rows.append(row)
