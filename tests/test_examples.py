"""The document's own examples of the modules that are written."""

import doctest
import importlib.util
import os
import re
import unittest

DOCUMENT = os.path.join(os.path.dirname(os.path.abspath(__file__)), "..", "..", "shared", "DOC.md")

EXAMPLES = {
    "[26]": """
    >>> from roundheap.moves import Move
    >>> leak = Move([("pool", 1, 0)], {1: ([], 1)})
    >>> [leak.origin(("object", 0)), leak.goal(("pool", 1, 5)), leak.goal(("object", 0)), leak.shift(1)]
    [('pool', 1, 0), ('pool', 1, 4), None, 1]
""",
    "[27]": """
    >>> from roundheap.moves import Move, identity
    >>> swap = Move([("object", 1), ("object", 0)], {})
    >>> [swap.then(swap) == identity(2), swap.power(10 ** 30 + 1) == swap, swap.inverse() == swap]
    [True, True, True]
    >>> leak = Move([("pool", 1, 0)], {1: ([], 1)})
    >>> leak.power(10 ** 30).origin(("object", 0)) == ("pool", 1, 10 ** 30 - 1)
    True
""",
    "[28]": """
    >>> from roundheap.moves import Move
    >>> ring = Move([("object", 1), ("object", 2), ("object", 0)], {})
    >>> [ring.cycles(), ring.order(), ring.meets(("object", 0), ("object", 1))]
    [[[('object', 0), ('object', 1), ('object', 2)]], 3, (2, 3)]
""",
    "[32]": """
    >>> from roundheap.words import Word
    >>> row = Word([("emit", "a"), ("final", "b")]) * 10 ** 30 + Word([("emit", None)])
    >>> [row.length() - 2 * 10 ** 30, row[10 ** 30], row[2 * 10 ** 30]]
    [1, ('emit', 'a'), ('emit', None)]
""",
    "[34]": """
    >>> from roundheap.words import Word, first_difference
    >>> one = Word([("emit", "a")]) * 3 * 10 ** 30
    >>> other = (Word([("emit", "a")]) * 10 ** 20 + Word([("emit", "b")])) * 10 ** 10
    >>> first_difference(one, other) == 10 ** 20
    True
""",
}


def is_written(example):
    """Whether there are all modules that an example imports."""
    names = re.findall(r"from (roundheap\.\w+) import", example)
    return len(names) > 0 and all(importlib.util.find_spec(name) for name in names)


class Examples(unittest.TestCase):
    def run_example(self, name, text):
        example = doctest.DocTestParser().get_doctest(text, {}, name, None, 0)
        told = []
        result = doctest.DocTestRunner(verbose=False).run(example, out=told.append)
        self.assertEqual(result.failed, 0, "".join(told))
        self.assertGreater(result.attempted, 1)

    def test_examples(self):
        for name, text in EXAMPLES.items():
            self.run_example(name, text)

    def test_examples_of_the_document(self):
        if not os.path.isfile(DOCUMENT):
            self.skipTest("the document is not here")
        with open(DOCUMENT, encoding="utf-8") as file:
            blocks = re.findall(r"(?:^    .*\n)+", file.read(), re.MULTILINE)
        found = [block for block in blocks if is_written(block)]
        self.assertGreaterEqual(len(found), len(EXAMPLES))
        for block in found:
            self.run_example("DOC.md", block)
        for text in EXAMPLES.values():
            self.assertIn(text.strip(), [block.strip() for block in found])


if __name__ == "__main__":
    unittest.main()
