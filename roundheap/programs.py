"""Programs: what they are made of, and which are valid."""

from roundheap.checks import is_integer, is_name, is_one_of, is_within
from roundheap.errors import InvalidProgram
from roundheap.statements import MOST_STATEMENTS, Scope, copied_block, survey

MOST_MEMORY = 12


def first_bad_name(value, most, barred):
    """The index of the first item that is no new name; None if there is none, -1 if it is no list so long."""
    if not isinstance(value, list) or len(value) > most:
        return -1
    seen = {}
    for index, name in enumerate(value):
        if not is_name(name) or name in seen or name in barred:
            return index
        seen[name] = True
    return None


def check_names(part, value, least, most, barred):
    at = first_bad_name(value, most, barred)
    if at is None and len(value) < least:
        at = -1
    if at is not None:
        raise InvalidProgram(part, at)


def is_class(value, seen):
    if not isinstance(value, tuple) or len(value) != 4:
        return False
    name, size, fields, final = value
    if not is_name(name) or name in seen or not is_within(size, 1, 8):
        return False
    return first_bad_name(fields, 3, []) is None and isinstance(final, bool)


def check_classes(classes):
    if not isinstance(classes, list) or not 1 <= len(classes) <= 6:
        raise InvalidProgram("classes", -1)
    seen = {}
    for index, item in enumerate(classes):
        if not is_class(item, seen):
            raise InvalidProgram("classes", index)
        seen[item[0]] = True


def check_threshold(threshold):
    if not is_within(threshold, 1, MOST_MEMORY):
        raise InvalidProgram("threshold", -1)


def check_radices(radices, threshold):
    if not isinstance(radices, list):
        raise InvalidProgram("radices", -1)
    total = threshold
    for index, radix in enumerate(radices):
        if not is_integer(radix) or radix < 2 or total * radix > MOST_MEMORY:
            raise InvalidProgram("radices", index)
        total *= radix


def is_head(value, seen, weak):
    """Whether a value is a function, its body left aside."""
    if not isinstance(value, tuple) or len(value) != 5:
        return False
    name, parameters, inner, _, result = value
    if not is_name(name) or name in seen:
        return False
    if not isinstance(parameters, list) or not isinstance(inner, list):
        return False
    if first_bad_name(parameters + inner, 8, weak) is not None:
        return False
    return result is None or is_one_of(result, parameters + inner)


def scope_for(names, classes, weak, radices, calls):
    fields = {name: True for item in classes for name in item[2]}
    return Scope([item[0] for item in classes], fields, names, weak, len(radices), calls)


def check_functions(functions, classes, weak, radices):
    """Raise for the first invalid function; return what calls need to know of each, and how many statements."""
    if not isinstance(functions, list) or len(functions) > 4:
        raise InvalidProgram("functions", -1)
    calls = {}
    many = 0
    for index, item in enumerate(functions):
        if not is_head(item, calls, weak):
            raise InvalidProgram("functions", (index,))
        name, parameters, inner, body, result = item
        seen = survey(body, scope_for(parameters + inner, classes, weak, radices, calls))
        if seen.place is not None:
            raise InvalidProgram("functions", (index,) + seen.place)
        calls[name] = (len(parameters), result is not None, seen.depth)
        many += seen.many
    return calls, many


def check_body(body, scope, many):
    """Raise if the body is invalid, or the program has too many statements with so many in functions."""
    seen = survey(body, scope)
    if seen.place is not None:
        raise InvalidProgram("body", seen.place)
    if many + seen.many > MOST_STATEMENTS:
        raise InvalidProgram("body", -1)


def copied_classes(classes):
    return [(name, size, list(fields), final) for name, size, fields, final in classes]


def copied_functions(functions):
    rows = []
    for name, parameters, inner, body, result in functions:
        rows.append((name, list(parameters), list(inner), copied_block(body), result))
    return rows


class Program:
    """A program of the language; it never changes."""

    def __init__(self, classes, body, *, variables, weak, threshold, radices, functions):
        check_classes(classes)
        check_names("variables", variables, 1, 8, [])
        check_names("weak", weak, 0, 4, variables)
        check_threshold(threshold)
        check_radices(radices, threshold)
        calls, many = check_functions(functions, classes, weak, radices)
        check_body(body, scope_for(variables, classes, weak, radices, calls), many)
        self._classes = copied_classes(classes)
        self._body = copied_block(body)
        self._variables = list(variables)
        self._weak = list(weak)
        self._threshold = threshold
        self._radices = list(radices)
        self._functions = copied_functions(functions)

    def classes(self):
        return copied_classes(self._classes)

    def body(self):
        return copied_block(self._body)

    def variables(self):
        return list(self._variables)

    def weak(self):
        return list(self._weak)

    def threshold(self):
        return self._threshold

    def radices(self):
        return list(self._radices)

    def functions(self):
        return copied_functions(self._functions)

    def __eq__(self, other):
        return (isinstance(other, Program) and self._classes == other._classes
                and self._variables == other._variables and self._weak == other._weak
                and self._threshold == other._threshold and self._radices == other._radices
                and self._functions == other._functions and self._body == other._body)
