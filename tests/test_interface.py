"""The interface: each name in its own file, with its parameters, and each method in its own class."""

import ast
import importlib
import inspect
import os
import unittest

from roundheap import errors

FOLDER = os.path.dirname(errors.__file__)
FUNCTIONS = {
    "texts": ["program_text(program)", "read_program(text)"],
    "moves": ["identity(count)"],
    "blocks": ["block_move(size, names, spare, block)", "spares_needed(size, move)", "block_for(size, names, spare, move, kind)",
               "shortest_block(size, names, spare, move, kind)"],
    "words": ["agreeing(one, first, other, second)", "first_difference(one, other)", "has_period(word, period)"],
    "watches": ["count_row(word, row, end)", "find_row(word, row, number)"],
    "growing": ["growth_fault(run, spot, first, period)"],
    "probes": ["runs_out(run, most, sort)"],
    "lives": ["born(run, number)", "made_as(run, number)", "died(run, number)", "holder(run, spot, address)"],
    "sweeps": ["sweeps(run)", "sweep(run, number)", "swept(run, first, last, *, only=None)", "sweep_of(run, index, *, only=None)"],
    "keepers": ["references(view)", "holders(view, number)", "certificate(view, number)", "is_certificate(view, number, thing)",
                "on_every_path(view, number)", "retained(view, number)", "cheapest_cut(view, numbers, *, costs=None)",
                "cut_cost(view, numbers, thing, *, costs=None)", "paths_sum(view, numbers, thing, *, costs=None)"],
    "endings": ["ended(view, references)", "waiting(view)"],
    "stepping": ["frames(run, spot)", "step_at(run, spot)", "walk(run, spot, many)", "moved_on(run, spot, many)"],
    "leaks": ["leak_cut(run, spot)"],
    "passes": ["places(program)", "statement_at(program, place)", "without(program, place)", "with_statement(program, place, statement)",
               "simplified(program)", "same_log(one, other)", "removable(program)", "lowering_clears(program)"],
    "comparing": ["between(run, first, last)", "made_between(run, first, last)", "freed_between(run, first, last)",
                  "log_difference(one, other)", "block_end(run, spot, block)", "block_differences(run, spot, one, other)"],
}
VIEW = ["variables()", "weak()", "value(name)", "objects()", "row(number)", "log()", "news()", "collections()", "units()", "pool(size)"]
CLASSES = {
    ("programs", "Program(classes, body, *, variables, weak, threshold, radices, functions)"):
        ["classes()", "body()", "variables()", "weak()", "radices()", "functions()", "threshold()", "__eq__"],
    ("machine", "Machine(program)"): ["step()", "steps(most)", "next_spot()", "ended()"] + VIEW,
    ("moves", "Move(objects, pools)"):
        ["objects()", "pools()", "origin(place)", "goal(place)", "shift(size)", "then(later)", "power(count)", "inverse()", "order()", "cycles()",
         "returns(place)", "meets(place, goal)", "__eq__", "__repr__"],
    ("words", "Word(entries)"): ["length()", "cut(first, last)", "entries(first, last)", "__add__", "__mul__", "__getitem__", "__eq__", "__bool__", "__contains__"],
    ("watches", "Watch(start, moves)"): ["after(word, end)", "visits(word, state, end)", "when(word, state, number)"],
    ("runs", "Run(program)"): ["ended()", "rhythm(spot)", "last_spot()", "work()", "view(spot)"],
    ("runs", "View"): VIEW + ["address(number)", "retired()", "peak()", "count()", "steps()"],
    ("growing", "Growing(run, spot)"): ["rhythm()", "news()", "steps()", "log()", "count()", "units()", "shift(size)", "leaked()", "number_at(slot, period)",
                                        "address_at(slot, period)", "rule(slot)", "fates()"],
    ("probes", "Probe(run, conditions)"): ["count(spot)", "find(number)", "after(spot)", "before(spot)", "total(spot, sort)", "greatest(begin, end, sort)"],
    ("addresses", "Addresses(run, spot)"): ["taken(name, count)", "alike(name, other, count)", "exchanged(name, other, count)", "all_back()"],
    ("sweeps", "Sweep(run, spot)"): ["where()", "which()", "level()", "looked()", "lost()", "fallen()", "freed()", "entries()", "aged()",
                                     "__len__", "__bool__", "__contains__", "__getitem__", "__eq__"],
    ("sweeps", "Waiting(run, spot)"): ["dead()", "level_for(number)", "walk(number)", "is_walk(number, walk)", "__len__", "__bool__", "__contains__"],
    ("leaks", "Strip(run, spot, periods)"): ["objects()", "references()", "number_for(item)", "dead_without(references)", "cut(first, last)"],
}
ERRORS = {"InvalidProgram": ["part", "at"], "InvalidText": ["line", "column"], "InvalidSpot": ["spot"], "NotReached": ["spot"], "Grown": ["spot"],
          "InvalidName": ["name"], "InvalidNumber": ["number"], "InvalidPlace": ["place"], "InvalidArgument": ["part"], "LimitExceeded": ["limit"]}
MODULES = """addresses blocks comparing endings errors growing keepers leaks lives machine moves passes probes programs runs stepping sweeps
texts watches words""".split()


def defined_in(module):
    """The names of the functions and classes that the text of a file defines."""
    with open(os.path.join(FOLDER, module + ".py"), encoding="utf-8") as file:
        return [node.name for node in ast.parse(file.read()).body if isinstance(node, (ast.FunctionDef, ast.ClassDef))]


def written(name, call):
    return name + str(inspect.signature(call))


class Interface(unittest.TestCase):
    def test_modules(self):
        for module in MODULES:
            importlib.import_module("roundheap." + module)
        self.assertEqual(sorted(MODULES), sorted(set(list(FUNCTIONS) + [module for module, _ in CLASSES] + ["errors"])))

    def test_functions(self):
        for module, calls in FUNCTIONS.items():
            for call in calls:
                name = call.split("(")[0]
                self.assertIn(name, defined_in(module))
                self.assertEqual(written(name, getattr(importlib.import_module("roundheap." + module), name)), call)

    def test_classes(self):
        for (module, head), methods in CLASSES.items():
            name = head.split("(")[0]
            self.assertIn(name, defined_in(module))
            kind = getattr(importlib.import_module("roundheap." + module), name)
            if "(" in head:
                self.assertEqual(written(name, kind), head)
            for method in methods:
                word = method.split("(")[0]
                self.assertIn(word, vars(kind), name)
                if "(" in method:
                    parameters = str(inspect.signature(vars(kind)[word])).replace("(self, ", "(").replace("(self)", "()")
                    self.assertEqual(word + parameters, method)

    def test_errors(self):
        self.assertEqual(errors.RunError.__bases__, (ArithmeticError,))
        for name, attributes in ERRORS.items():
            self.assertIn(name, defined_in("errors"))
            kind = getattr(errors, name)
            self.assertEqual(kind.__bases__, (errors.RunError,))
            values = [object() for _ in attributes]
            made = kind(*values)
            for attribute, value in zip(attributes, values):
                self.assertIs(getattr(made, attribute), value)


if __name__ == "__main__":
    unittest.main()
