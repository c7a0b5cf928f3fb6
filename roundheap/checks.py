"""What kinds of values are told apart everywhere; each function takes a value of any kind."""


def is_integer(value):
    return isinstance(value, int) and not isinstance(value, bool)


def is_within(value, least, most):
    return is_integer(value) and least <= value <= most


def is_count(value):
    return is_integer(value) and value >= 0


def is_size(value):
    return is_within(value, 1, 8)


def is_word(value, word):
    """Whether a value is this string: no other kind is ever compared with a string."""
    return isinstance(value, str) and value == word


def is_name(value):
    if not isinstance(value, str) or not 1 <= len(value) <= 8:
        return False
    return all(["a" <= letter <= "z" for letter in value])


def is_one_of(value, names):
    """Whether a value is one of some strings, given as a list, a tuple or a dict."""
    return isinstance(value, str) and value in names


def is_key(value):
    """Whether a value consists of nothing but integers, strings, and tuples of these in few layers."""
    layers = [value]
    for _ in range(4):
        further = []
        for part in layers:
            if isinstance(part, tuple):
                further.extend(part)
            elif not is_integer(part) and not isinstance(part, str):
                return False
        layers = further
    return not layers
