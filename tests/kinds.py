"""Values of many kinds, for the places of arguments, and programs, words and moves that are often needed."""

import types

from roundheap import errors
from roundheap.addresses import Addresses
from roundheap.growing import Growing
from roundheap.leaks import Strip
from roundheap.machine import Machine
from roundheap.moves import Move
from roundheap.probes import Probe
from roundheap.programs import Program
from roundheap.runs import Run
from roundheap.sweeps import Sweep, Waiting
from roundheap.watches import Watch
from roundheap.words import Word

HUGE = 10 ** 5000
PARTS = {"variables": ["x", "y"], "weak": ["w"], "threshold": 2, "radices": [3], "functions": []}
CLASSES = [("node", 1, ["next"], True), ("pair", 2, ["left", "right"], False)]


def make(**parts):
    """A program of these parts; the other ones are the usual ones."""
    return Program(**{"classes": CLASSES, "body": [], **PARTS, **parts})


def grown():
    """A run of a list that grows at its head in a repeat at (0,)."""
    body = [("repeat", 10 ** 30, [("new", "y", "node"), ("store", "y", "next", "x"), ("copy", "x", "y"), ("clear", "y")])]
    return Run(make(body=body))


def rings(number, is_sweep=True):
    """A sweep of a run that lets rings go, or that run."""
    run = Run(make(body=[("repeat", 9, [("new", "x", "node"), ("store", "x", "next", "x"), ("clear", "x")])]))
    return Sweep(run, (0, number, 0)) if is_sweep else run


def deep_list(depth):
    value = []
    for _ in range(depth):
        value = [value]
    return value


def deep_tuple(depth):
    value = ()
    for _ in range(depth):
        value = (value,)
    return value


def odd_values():
    """Values of all kinds, each made anew."""
    own = []
    own.append(own)
    return [
        None, True, False, NotImplemented, Ellipsis,
        0, 1, 2, -1, -HUGE, HUGE, 1.0, 0.0, -1.5, float("nan"), float("inf"), 1j,
        "", "x", "object", "pool", "emit", "final", "Node", "n\u00e4me", "toolongname", "a b", "\u0430", "x" * 5000,
        b"", b"x", bytearray(b"x"), memoryview(b"x"),
        [], [1], ["x"], [None], [[]], (), (1,), ("x",), ("object",), ("emit",), ("object", True), ("object", -1),
        ("object", 1.0), ("object", "0"), ("object", 0, 0), ("pool", 1), ("pool", 0, 0), ("pool", 9, 0),
        ("pool", 1, -1), ("pool", True, 0), ("pool", 1, False), ("pool", 1.0, 0), ["object", 0], ["pool", 1, 0],
        ("emit", ""), ("emit", "A"), ("emit", "toolongname"), ("emit", 1), ("emit", []), ("final", None),
        ("final", "a", 1), ("final", b"a"), ("other", "a"), ["emit", "a"], ([], []), ({}, {}),
        {}, {1: 2}, {"x": "y"}, set(), {1}, frozenset(), frozenset([1]), range(3), slice(1), slice(0, 2, 1),
        iter([1]), (k for k in [1]), zip([1]), map(len, []), enumerate([1]), reversed([1]), {}.items(), {}.keys(),
        int, str, list, object, type, Word, Move, Program, len, print, lambda: 1, "x".join, object(),
        types, ValueError("x"), ValueError, errors.InvalidNumber(3), errors.RunError, property(), staticmethod(len),
        own, deep_list(3000), deep_tuple(3000), Word([]), Word([("emit", "a")]), Move([], {}),
        grown(), grown().view((0,)), Growing(grown(), (0,)), Strip(grown(), (0,), 3), Addresses(grown(), (0,)),
        Run, Growing, ("variable", 0), ("variable", 0, 0), ("variable", True, 0), ("variable", 0, False),
        ("field", 0, "next"), ("field", False, "next"), ("old", 0), ("left", 0, 0), ("left", False, 0), ("core", 0),
        ("core", True), [[]], [()], [("variable", 0, 0)], ("live", []), ("dead", ()), ("live", None), ("dead", [0]),
        (0,), (False,), (0, 0), (0, 0, 0), (-1,), (0.0,), (HUGE,), [0], [True], [0, 0], [None], {(): 1}, {("field",): 1},
        ([], -1), [([], 1)], [(None, 0)], Machine(make()), Probe(grown(), []), Watch(0, [{}]), Watch, Sweep,
        rings(1), rings(3), Waiting(rings(3, False), (0,)), Waiting(rings(3, False), (0, 2, 1)),
        [rings(3)], (rings(3),), [{}], [{("emit", "a"): 0}], [("emit", "a"), 3], [("nil", "x")], ("nil", "x"), [[3, 3]],
        make(),
    ]


def all_but(fits):
    """The values of all kinds for which a test does not hold."""
    return [value for value in odd_values() if not fits(value)]


def is_plain_integer(value):
    return type(value) is int


def is_list_of_names(value):
    """Whether a value of those above is a list of names, also an empty one."""
    return isinstance(value, list) and (value == [] or value in (["x"], ["emit", "a"]))


def is_fine_name(value):
    """Whether a value of those above is a name."""
    return isinstance(value, str) and value in ("x", "object", "pool", "emit", "final")
