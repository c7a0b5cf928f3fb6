"""The document's own examples, in its order."""

import doctest
import os
import re
import unittest

DOCUMENT = os.path.join(os.path.dirname(os.path.abspath(__file__)), "..", "..", "shared", "DOC.md")

EXAMPLES = {
    "[14]": """
    >>> from roundheap.programs import Program
    >>> from roundheap.texts import program_text, read_program
    >>> body = [("repeat", 10 ** 30, [("new", "x", "node"), ("ifnil", "y", [("copy", "y", "x")], [("clear", "x")])])]
    >>> program = Program([("node", 1, ["next"], True)], body, variables=["x", "y"], weak=[], threshold=2, radices=[3], functions=[])
    >>> program_text(program).split("\\n")[:5]
    ['final node 1 next', 'threshold 2', 'radices 3', 'variables x y', 'weak']
    >>> program_text(program).split("\\n")[5:9]
    ['body', '  repeat 1000000000000000000000000000000', '    new x node', '    ifnil y']
    >>> program_text(program).split("\\n")[9:]
    ['      copy y x', '    else', '      clear x']
    >>> read_program(program_text(program)) == program
    True
""",
    "[24]": """
    >>> from roundheap.programs import Program
    >>> from roundheap.machine import Machine
    >>> classes = [("node", 1, ["next"], False)]
    >>> body = [("new", "x", "node"), ("repeat", 3, [("new", "y", "node"), ("store", "y", "next", "x"), ("copy", "x", "y")])]
    >>> program = Program(classes, body, variables=["x", "y"], weak=[], threshold=4, radices=[], functions=[])
    >>> machine = Machine(program)
    >>> [machine.steps(100), machine.objects(), machine.row(3)]
    [10, [0, 1, 2, 3], ('node', 'node', {'next': 2}, 0, (1, 3))]
""",
    "[26]": """
    >>> from roundheap.moves import Move
    >>> leak = Move([("pool", 1, 0)], {1: ([], 1)})
    >>> [leak.origin(("object", 0)), leak.goal(("pool", 1, 5)), leak.goal(("object", 0)), leak.shift(1)]
    [('pool', 1, 0), ('pool', 1, 4), None, 1]
""",
    "[27]": """
    >>> from roundheap.moves import Move, identity
    >>> swap = Move([("object", 1), ("object", 0)], {})
    >>> [swap.then(swap) == identity(2), swap.power(10 ** 30 + 1) == swap, swap.inverse() == swap]
    [True, True, True]
    >>> leak = Move([("pool", 1, 0)], {1: ([], 1)})
    >>> leak.power(10 ** 30).origin(("object", 0)) == ("pool", 1, 10 ** 30 - 1)
    True
""",
    "[28]": """
    >>> from roundheap.moves import Move
    >>> ring = Move([("object", 1), ("object", 2), ("object", 0)], {})
    >>> [ring.cycles(), ring.order(), ring.meets(("object", 0), ("object", 1))]
    [[[('object', 0), ('object', 1), ('object', 2)]], 3, (2, 3)]
""",
    "[30]": """
    >>> from roundheap.blocks import block_move, shortest_block, spares_needed
    >>> from roundheap.moves import Move
    >>> one = block_move(1, ["a"], [], [("new", "a", "c")])
    >>> [one.objects(), one.pools(), spares_needed(1, one)]
    [[('pool', 1, 0)], {1: ([('object', 0)], 1)}, 0]
    >>> swap = Move([("object", 1), ("object", 0)], {})
    >>> shortest_block(1, ["a", "b"], [], swap, "c")
    [('clear', 'b'), ('new', 'a', 'c'), ('new', 'b', 'c')]
""",
    "[32]": """
    >>> from roundheap.words import Word
    >>> row = Word([("emit", "a"), ("final", "b")]) * 10 ** 30 + Word([("emit", None)])
    >>> [row.length() - 2 * 10 ** 30, row[10 ** 30], row[2 * 10 ** 30]]
    [1, ('emit', 'a'), ('emit', None)]
""",
    "[34]": """
    >>> from roundheap.words import Word, first_difference
    >>> one = Word([("emit", "a")]) * 3 * 10 ** 30
    >>> other = (Word([("emit", "a")]) * 10 ** 20 + Word([("emit", "b")])) * 10 ** 10
    >>> first_difference(one, other) == 10 ** 20
    True
""",
    "[36]": """
    >>> from roundheap.watches import count_row, find_row
    >>> from roundheap.words import Word
    >>> some = [("emit", "a"), ("emit", "a")]
    >>> [count_row(Word(some) * 10 ** 30, some, 2 * 10 ** 30) - 2 * 10 ** 30, find_row(Word(some) * 9, some, 5)]
    [-1, 5]
""",
    "[46]": """
    >>> from roundheap.programs import Program
    >>> from roundheap.runs import Run
    >>> classes = [("node", 1, [], False)]
    >>> body = [("new", "x", "node"), ("new", "y", "node"), ("repeat", 10 ** 30, [("new", "z", "node"), ("copy", "x", "y"), ("copy", "y", "z"), ("clear", "z")])]
    >>> run = Run(Program(classes, body, variables=["x", "y", "z"], weak=[], threshold=1, radices=[], functions=[]))
    >>> run.rhythm((2,))
    ('returns', 0, 1, 1)
    >>> view = run.view((2, 10 ** 30 - 1, 0))
    >>> [view.objects(), view.address(10 ** 30)]
    [[999999999999999999999999999999, 1000000000000000000000000000000], (1, 1)]
""",
    "[54]": """
    >>> from roundheap.programs import Program
    >>> from roundheap.runs import Run
    >>> from roundheap.growing import Growing
    >>> classes = [("node", 1, ["next"], False)]
    >>> body = [("new", "x", "node"), ("repeat", 10 ** 30, [("new", "y", "node"), ("store", "y", "next", "x"), ("copy", "x", "y")])]
    >>> run = Run(Program(classes, body, variables=["x", "y"], weak=[], threshold=4, radices=[], functions=[]))
    >>> run.rhythm((1,))
    ('grows', 2, 4, 10)
    >>> growing = Growing(run, (1,))
    >>> [growing.count(), growing.number_at(0, 10 ** 29), growing.rule(3), growing.fates()]
    [4, 400000000000000000000000000002, (0, 5, 5), [('stays',), ('left', 1, 0)]]
""",
    "[57]": """
    >>> from roundheap.programs import Program
    >>> from roundheap.runs import Run
    >>> from roundheap.probes import Probe, runs_out
    >>> classes = [("node", 1, ["next"], False)]
    >>> body = [("new", "x", "node"), ("repeat", 10 ** 30, [("new", "y", "node"), ("store", "y", "next", "x"), ("copy", "x", "y")])]
    >>> run = Run(Program(classes, body, variables=["x", "y"], weak=[], threshold=4, radices=[], functions=[]))
    >>> runs_out(run, 10 ** 20, "objects")
    (1, 99999999999999999999, 0)
    >>> probe = Probe(run, [("word", "copy")])
    >>> [probe.count((1, 5, 0)), probe.find(10 ** 25), probe.greatest((0,), (1, 7, 0), "units")]
    [5, (1, 10000000000000000000000000, 2), (8, (1, 6, 2))]
""",
    "[60]": """
    >>> from roundheap.programs import Program
    >>> from roundheap.runs import Run
    >>> from roundheap.lives import born, died, holder, made_as
    >>> classes = [("node", 1, [], False)]
    >>> inner = [("new", "z", "node"), ("copy", "x", "y"), ("copy", "y", "z"), ("clear", "z")]
    >>> body = [("new", "x", "node"), ("new", "y", "node"), ("repeat", 10 ** 30, inner)]
    >>> run = Run(Program(classes, body, variables=["x", "y", "z"], weak=[], threshold=1, radices=[], functions=[]))
    >>> [born(run, 2), died(run, 0), died(run, 10 ** 30 + 1), made_as(run, 2)]
    [(2, 0, 0), ((2, 0, 1), 'count'), None, ('node', (1, 2))]
    >>> [died(run, 10 ** 29) == ((2, 10 ** 29, 1), "count"), holder(run, (2, 3, 0), (1, 0)), holder(run, (2, 3, 0), (1, 2))]
    [True, ('object', 3), ('pool', 0)]
""",
    "[64]": """
    >>> from roundheap.programs import Program
    >>> from roundheap.runs import Run
    >>> from roundheap.addresses import Addresses
    >>> classes = [("node", 1, [], False)]
    >>> inner = [("new", "z", "node"), ("copy", "x", "y"), ("copy", "y", "z"), ("clear", "z")]
    >>> body = [("new", "x", "node"), ("new", "y", "node"), ("repeat", 10 ** 30, inner)]
    >>> run = Run(Program(classes, body, variables=["x", "y", "z"], weak=[], threshold=1, radices=[], functions=[]))
    >>> told = Addresses(run, (2,))
    >>> [told.taken("y", 0), told.taken("y", 10 ** 30 - 1), told.all_back()]
    [(1, 1), (1, 1), 3]
    >>> [told.alike("x", "y", 0), told.alike("x", "x", 4), told.exchanged("x", "y", 0)]
    [[(2, 3)], [(4, 3)], []]
""",
    "[70]": """
    >>> from roundheap.programs import Program
    >>> from roundheap.runs import Run
    >>> from roundheap.sweeps import Waiting, sweep, sweep_of, swept
    >>> body = [("repeat", 10 ** 30, [("new", "x", "ring"), ("store", "x", "next", "x"), ("clear", "x")])]
    >>> ring = ("ring", 1, ["next"], False)
    >>> run = Run(Program([ring], body, variables=["x"], weak=[], threshold=2, radices=[2], functions=[]))
    >>> [sweep(run, number).freed() for number in (1, 2, 3, 4)]
    [[0], [1, 2], [4], [3, 5, 6]]
    >>> [number - 10 ** 30 for number in sweep(run, 5 * 10 ** 29).lost()]
    [-5, -3, -2]
    >>> [swept(run, 0, 4), swept(run, 0, 5 * 10 ** 29) - 10 ** 30, sweep_of(run, 10 ** 30)]
    [7, -1, None]
    >>> waiting = Waiting(run, (0, 6, 0))
    >>> [waiting.dead(), waiting.level_for(3), waiting.walk(3)]
    [[3, 5], 1, [3, 3]]
""",
    "[77]": """
    >>> from roundheap.programs import Program
    >>> from roundheap.runs import Run
    >>> from roundheap.keepers import certificate, cheapest_cut, retained
    >>> from roundheap.endings import ended, waiting
    >>> classes = [("node", 1, ["next"], False)]
    >>> body = [("new", "x", "node"), ("new", "y", "node"), ("store", "x", "next", "y"), ("store", "y", "next", "x")]
    >>> program = Program(classes, body, variables=["x", "y"], weak=[], threshold=3, radices=[], functions=[])
    >>> view = Run(program).view((4,))
    >>> [certificate(view, 1), retained(view, 1)]
    [('live', [('variable', 0, 1)]), ((1,), 1)]
    >>> cheapest_cut(view, [1])[:2]
    (2, [('variable', 0, 1), ('field', 0, 'next')])
    >>> ended(view, [("variable", 0, 0), ("variable", 0, 1)])
    ([], [(0, 0, 1), (1, 0, 1)])
    >>> ended(view, [("variable", 0, 0), ("variable", 0, 1), ("field", 0, "next")])
    ([0, 1], [])
""",
    "[80]": """
    >>> from roundheap.programs import Program
    >>> from roundheap.runs import Run
    >>> from roundheap.stepping import moved_on, step_at
    >>> classes = [("node", 1, ["next"], True)]
    >>> body = [("new", "x", "node"), ("repeat", 10 ** 30, [("new", "y", "node"), ("copy", "x", "y"), ("clear", "y")])]
    >>> run = Run(Program(classes, body, variables=["x", "y"], weak=[], threshold=3, radices=[2], functions=[]))
    >>> step_at(run, (1, 10 ** 29, 1))
    (('copy', 'x', 'y'), None, [(100000000000000000000000000000, (1, 0))], [('final', 'node')], None)
    >>> moved_on(run, (1, 5, 1), 3 * 10 ** 20)
    (1, 100000000000000000005, 1)
""",
    "[89]": """
    >>> from roundheap.programs import Program
    >>> from roundheap.runs import Run
    >>> from roundheap.leaks import Strip, leak_cut
    >>> classes = [("node", 1, ["next"], False)]
    >>> body = [("repeat", 10 ** 30, [("new", "y", "node"), ("store", "y", "next", "x"), ("copy", "x", "y"), ("clear", "y")])]
    >>> run = Run(Program(classes, body, variables=["x", "y"], weak=[], threshold=1, radices=[], functions=[]))
    >>> [run.rhythm((0,))[0], leak_cut(run, (0,))[0]]
    ['grows', 1]
    >>> strip = Strip(run, (0,), 5)
    >>> strip.cut(0, 3)[0]
    [('field', ('left', 0, 4), 'next')]
""",
    "[94]": """
    >>> from roundheap.passes import lowering_clears, removable, simplified
    >>> from roundheap.programs import Program
    >>> body = [("new", "x", "node"), ("new", "y", "node"), ("emit", "y")]
    >>> program = Program([("node", 1, [], False)], body, variables=["x", "y"], weak=[], threshold=1, radices=[], functions=[])
    >>> [removable(program), lowering_clears(program)]
    [[(0,)], [((1,), 'x', 1)]]
    >>> body = [("copy", "x", "x"), ("repeat", 1, [("repeat", 10 ** 15, [("repeat", 10 ** 15, [("new", "y", "node")])])])]
    >>> other = Program([("node", 1, [], False)], body, variables=["x", "y"], weak=[], threshold=1, radices=[], functions=[])
    >>> simplified(other).body() == [("repeat", 10 ** 30, [("new", "y", "node")])]
    True
""",
    "[99]": """
    >>> from roundheap.programs import Program
    >>> from roundheap.runs import Run
    >>> from roundheap.comparing import block_differences
    >>> classes = [("node", 1, [], False)]
    >>> run = Run(Program(classes, [("new", "x", "node")], variables=["x"], weak=[], threshold=12, radices=[], functions=[]))
    >>> block_differences(run, (1,), [("new", "x", "node")], [("clear", "x"), ("new", "x", "node")])
    ['addresses']
""",
}


class Examples(unittest.TestCase):
    def run_example(self, name, text):
        example = doctest.DocTestParser().get_doctest(text, {}, name, None, 0)
        told = []
        result = doctest.DocTestRunner(verbose=False).run(example, out=told.append)
        self.assertEqual(result.failed, 0, "".join(told))
        self.assertGreater(result.attempted, 1)

    def test_examples(self):
        for name, text in EXAMPLES.items():
            self.run_example(name, text)

    def test_examples_of_the_document(self):
        if not os.path.isfile(DOCUMENT):
            self.skipTest("the document is not here")
        with open(DOCUMENT, encoding="utf-8") as file:
            blocks = re.findall(r"(?:^    .*\n)+", file.read(), re.MULTILINE)
        self.assertEqual([block.strip() for block in blocks], [text.strip() for text in EXAMPLES.values()])


if __name__ == "__main__":
    unittest.main()
