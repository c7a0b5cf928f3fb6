"""Texts of programs: [11] to [14]."""

import random
import unittest

from kinds import all_but
from programs_by_chance import growing_program, ring_program, some_program
from roundheap.errors import InvalidProgram, InvalidText
from roundheap.programs import Program
from roundheap.texts import program_text, read_program

FAR = 10 ** 30
TEXT = """\
class node 1 next
final pair 2 left right
class bare 8
threshold 2
radices 2 3
variables x y
weak w
function f a b : c > c
  new c node
  ifnil a
    emit a
  else
    tag a t
    repeat 2
      wipe a next
  emit b
function g :
function h a : > a
  call a f a a
function k : b
  clear b
body
  new x pair
  repeat 1000000000000000000000000000000
    repeat 0
    call x f x y
    call - g
  ifsame x y
    store x left y
    load x y right
  else
    ifnil y
      copy x y
    else
      get y w
  weak w x
  collect 2
  call y h x"""
BODY = [
    ("new", "x", "pair"),
    ("repeat", FAR, [("repeat", 0, []), ("call", "x", "f", ["x", "y"]), ("call", None, "g", [])]),
    ("ifsame", "x", "y", [("store", "x", "left", "y"), ("load", "x", "y", "right")], [("ifnil", "y", [("copy", "x", "y")], [("get", "y", "w")])]),
    ("weak", "w", "x"), ("collect", 2), ("call", "y", "h", ["x"]),
]
FUNCTIONS = [
    ("f", ["a", "b"], ["c"], [("new", "c", "node"), ("ifnil", "a", [("emit", "a")], [("tag", "a", "t"), ("repeat", 2, [("wipe", "a", "next")])]), ("emit", "b")], "c"),
    ("g", [], [], [], None), ("h", ["a"], [], [("call", "a", "f", ["a", "a"])], "a"), ("k", [], ["b"], [("clear", "b")], None),
]
HEAD = "class node 1 next\nthreshold 2\nradices\nvariables x\nweak\n"
# How many words a line has that begins with this one; the other lines may have any number.
MOST_WORDS = {"threshold": 2, "body": 1, "new": 3, "copy": 3, "clear": 2, "load": 4, "store": 4, "wipe": 3, "tag": 3, "emit": 2, "weak": 3, "get": 3,
              "collect": 2, "ifnil": 2, "ifsame": 3, "repeat": 2, "else": 1}


def whole():
    return Program([("node", 1, ["next"], False), ("pair", 2, ["left", "right"], True), ("bare", 8, [], False)], BODY, variables=["x", "y"], weak=["w"],
                   threshold=2, radices=[2, 3], functions=FUNCTIONS)


class Base(unittest.TestCase):
    def refuse(self, text, line, column):
        with self.assertRaises(InvalidText) as caught:
            read_program(text)
        self.assertIs(type(caught.exception), InvalidText)
        self.assertEqual((caught.exception.line, caught.exception.column), (line, column), text)

    def accept(self, text):
        program = read_program(text)
        self.assertEqual(program_text(program), text)
        return program

    def refuse_program(self, text, part, at):
        with self.assertRaises(InvalidProgram) as caught:
            read_program(text)
        self.assertEqual((caught.exception.part, caught.exception.at), (part, at), text)


def is_last_body(lines, index):
    return "body" in lines[:index]


class Writing(Base):
    def test_the_whole(self):
        self.assertEqual(program_text(program=whole()), TEXT)
        self.assertTrue(read_program(text=TEXT) == whole())

    def test_by_chance(self):
        for seed in range(150):
            program = (growing_program, some_program, ring_program)[seed % 3](random.Random(seed), random.Random(seed).choice([0, 5, FAR]))
            text = program_text(program)
            self.assertTrue(self.accept(text) == program)
            self.assertNotIn(" \n", text + "\n")

    def test_small_ones(self):
        program = Program([("a", 1, [], False)], [], variables=["x"], weak=[], threshold=1, radices=[], functions=[])
        self.assertEqual(program_text(program), "class a 1\nthreshold 1\nradices\nvariables x\nweak\nbody")
        self.assertTrue(self.accept(program_text(program)) == program)

    def test_empty_blocks(self):
        body = [("ifnil", "x", [], [("clear", "x")]), ("ifnil", "x", [("clear", "x")], []), ("ifsame", "x", "x", [], []), ("repeat", 3, [])]
        text = HEAD + "body\n  ifnil x\n  else\n    clear x\n  ifnil x\n    clear x\n  ifsame x x\n  repeat 3"
        self.assertEqual(self.accept(text).body(), body)

    def test_else_without_statements(self):
        for block in ("", "\n    clear x"):
            for rest in ("", "\n  emit x", "\n  ifnil x"):
                program = read_program(HEAD + "body\n  ifnil x" + block + "\n  else" + rest)
                self.assertTrue(program == read_program(HEAD + "body\n  ifnil x" + block + rest))
        program = read_program(HEAD + "function f :\n  ifnil x\n    ifnil x\n    else\n  else\nbody".replace("x\n", "a\n").replace("f :", "f a :", 1))
        self.assertEqual(program.functions()[0][3], [("ifnil", "a", [("ifnil", "a", [], [])], [])])

    def test_deep_blocks(self):
        lines = ["  " * depth + "ifnil x" for depth in range(1, 61)]
        program = self.accept(HEAD + "body\n" + "\n".join(lines))
        block, depth = program.body(), 0
        while block:
            block, depth = block[0][2], depth + 1
        self.assertEqual(depth, 60)
        # The else of the deepest if has no lines either.
        self.assertTrue(read_program(HEAD + "body\n" + "\n".join(lines + ["  " * 60 + "else"])) == program)
        self.refuse(HEAD + "body\n" + "\n".join(lines + ["  " * 61 + "clear x"]), 66, -1)
        self.refuse(HEAD + "body\n" + "\n".join(lines + ["  " * 60 + "else", "  " * 61 + "clear x"]), 67, -1)
        self.refuse_program(HEAD + "body\n" + "\n".join(lines + ["  " * 60 + "clear x"]), "body", -1)

    def test_numbers(self):
        self.refuse_program(HEAD + "body\n  repeat " + "9" * 31, "body", (0,))
        self.refuse(HEAD + "body\n  repeat " + "9" * 32, 6, 1)
        self.assertEqual(read_program(HEAD + "body\n  repeat 0\n  repeat 1" + "0" * 30).body(), [("repeat", 0, []), ("repeat", FAR, [])])
        for word in ("00", "01", "+1", "-1", "1.0", "1_0", "", "x", "\u0661", "\u00b2", "0x1", "1e3", "1\r", "1\t"):
            self.refuse(HEAD + "body\n  repeat " + word, 6, 1)
            self.refuse(HEAD + "body\n  collect " + word, 6, 1)
            self.refuse(HEAD.replace("old 2", "old " + word) + "body", 1, 1)
            self.refuse(HEAD.replace("node 1", "node " + word) + "body", 0, 2)
            self.refuse(HEAD.replace("radices", "radices 2 " + word) + "body", 2, 2)

    def test_names(self):
        for word in ("X", "a1", "toolongname", "n\u00e4me", "-", ":", ">", "a_b", "1", "", "a\t", "\u0430"):
            self.refuse(HEAD + "body\n  clear " + word, 6, 1)
            self.refuse(HEAD.replace("node", word, 1) + "body", 0, 1)
            self.refuse(HEAD.replace("next", "next " + word, 1) + "body", 0, 4)
            self.refuse(HEAD.replace("weak", "weak w " + word) + "body", 4, 2)
            self.refuse(HEAD.replace("variables x", "variables " + word) + "body", 3, 1)
            self.refuse(HEAD + "function " + word + " :\nbody", 5, 1)
            self.refuse(HEAD + "body\n  call x " + word, 6, 2)
            self.refuse(HEAD + "body\n  call x f x " + word, 6, 4)
            if word != "-":
                self.refuse(HEAD + "body\n  call " + word + " f", 6, 1)
            if word != ":":
                self.refuse(HEAD + "function f a " + word + " :\nbody", 5, 3)
            if word != ">":
                self.refuse(HEAD + "function f a : b " + word + "\nbody", 5, 5)
            self.refuse(HEAD + "function f a : > " + word + "\nbody", 5, 5)


class Spoiling(Base):
    """Each way to spoil a text, with its line and its word."""

    def setUp(self):
        self.lines = TEXT.split("\n")

    def with_line(self, index, *lines):
        return "\n".join(self.lines[:index] + list(lines) + self.lines[index + 1:])

    def split(self, index):
        line = self.lines[index]
        blanks = len(line) - len(line.lstrip(" "))
        return line[:blanks], line[blanks:].split(" ")

    def test_words(self):
        for index in range(len(self.lines)):
            ahead, words = self.split(index)
            for at in range(len(words)):
                for bad in ("X", "new2", "."):
                    self.refuse(self.with_line(index, ahead + " ".join(words[:at] + [bad] + words[at + 1:])), index, at)
                if at > 0:
                    # Between two blanks stands an empty word.
                    self.refuse(self.with_line(index, ahead + " ".join(words[:at] + [""] + words[at:])), index, at)
            self.refuse(self.with_line(index, ahead + " ".join(words) + " "), index, len(words))
            self.refuse(self.with_line(index, ahead + " ".join(words) + "  "), index, len(words))

    def test_missing_words(self):
        for index in range(len(self.lines)):
            ahead, words = self.split(index)
            least = {"class": 3, "final": 3, "radices": 1, "variables": 1, "weak": 1, "call": 3}.get(words[0], MOST_WORDS.get(words[0]))
            if words[0] == "weak" and ahead:
                least = 3
            if words[0] == "function":
                colon = words.index(":")
                for many in range(1, colon + 1):
                    self.refuse(self.with_line(index, " ".join(words[:many])), index, many)
                if ">" in words:
                    self.refuse(self.with_line(index, " ".join(words[:-1])), index, len(words) - 1)
                continue
            for many in range(1, least):
                self.refuse(self.with_line(index, ahead + " ".join(words[:many])), index, many)

    def test_words_too_many(self):
        for index in range(len(self.lines)):
            ahead, words = self.split(index)
            if words[0] == "function" and ">" not in words or words[0] not in MOST_WORDS and words[0] != "function" or words[0] == "weak" and not ahead:
                continue
            for more in ("x", "1", "X", ""):
                self.refuse(self.with_line(index, ahead + " ".join(words + [more])), index, len(words))

    def test_blanks_ahead(self):
        for index in range(len(self.lines)):
            ahead, words = self.split(index)
            line = self.lines[index]
            self.refuse(self.with_line(index, " " + line), index, -1)
            self.refuse(self.with_line(index, "   " + line), index, -1)
            opens = index > 0 and self.split(index - 1)[1][0] in ("ifnil", "ifsame", "repeat", "else")
            if ahead:
                most = len(self.split(index - 1)[0]) + (2 if opens else 0) if self.split(index - 1)[0] else 2
                self.refuse(self.with_line(index, " " * (most + 2) + " ".join(words)), index, -1)
                self.refuse(self.with_line(index, " ".join(words)), index, 0)
            elif index <= 7:
                self.refuse(self.with_line(index, "  " + line), index, -1)

    def test_lines_that_are_missing(self):
        body = self.lines.index("body")
        for many in range(len(self.lines)):
            text = "\n".join(self.lines[:many])
            if many == 0:
                self.refuse(text, 0, 0)
            elif many <= body:
                self.refuse(text, many, 0)
            else:
                # The body may end anywhere.
                self.assertTrue(program_text(read_program(text)) in (text, text[:-len("\n  else")], text[:-len("\n    else")]))

    def test_lines_left_out(self):
        for index in range(3, 7):
            self.refuse("\n".join(self.lines[:index] + self.lines[index + 1:]), index, 0)
        self.refuse("\n".join(self.lines[3:]), 0, 0)
        body = self.lines.index("body")
        # Without the body its lines are those of the last function.
        self.refuse("\n".join(self.lines[:body] + self.lines[body + 1:]), len(self.lines) - 1, 0)

    def test_empty_lines(self):
        for index in range(len(self.lines) + 1):
            lines = self.lines[:index] + [""] + self.lines[index:]
            self.refuse("\n".join(lines), index, 0)
            # A line of two blanks is one whose word is empty, where there may be one.
            inner = self.lines[index - 1].startswith((" ", "function")) or self.lines[index - 1] == "body" if index else False
            self.refuse("\n".join(self.lines[:index] + ["  "] + self.lines[index:]), index, 0 if inner else -1)
            self.refuse("\n".join(self.lines[:index] + [" "] + self.lines[index:]), index, -1)

    def test_lines_that_stand_elsewhere(self):
        firsts = ["class a 1", "threshold 1", "radices", "variables x", "weak", "function q :", "body"]
        fits = {0: (0,), 1: (0, 1), 2: (0, 1), 3: (0, 1), 4: (2,), 5: (3,), 6: (4,), 7: (5, 6)}
        for index in range(8):
            for number, line in enumerate(firsts):
                text = "\n".join(self.lines[:index] + [line] + self.lines[index:])
                if number not in fits[index]:
                    self.refuse(text, index, 0)
        for line in ("clear x", "else", "call - g", "function q :", "body", "threshold 1"):
            self.refuse(TEXT + "\n" + line, len(self.lines), 0)
        for line in ("  else", "  function q :", "  body", "  class a 1", "  threshold 2", "  variables x", "  Clear x"):
            self.refuse(TEXT + "\n" + line, len(self.lines), 0)

    def test_else(self):
        head = HEAD + "body\n"
        for text, line, column in (
            ("  else", 6, 0), ("  repeat 2\n  else", 7, 0), ("  ifnil x\n    else", 7, 0), ("  ifnil x\n  else\n  else", 8, 0),
            ("  ifnil x\n    clear x\n    else", 8, 0), ("  ifnil x\n  clear x\n  else", 8, 0), ("  ifnil x\n  else\n    clear x\n  else", 9, 0),
            ("  ifnil x\n  else x", 7, 1), ("  ifnil x\n  else ", 7, 1), ("  ifnil x\n  else\n      clear x", 8, -1), ("  clear x\n    clear x", 7, -1),
            ("  ifnil x\n    ifnil x\n  else\n    else", 9, 0), ("  ifnil x\n    repeat 2\n    else", 8, 0),
        ):
            self.refuse(head + text, line, column)
        body = self.accept(head + "  ifnil x\n    ifnil x\n    else\n      emit x\n  else\n    clear x").body()
        self.assertEqual(body, [("ifnil", "x", [("ifnil", "x", [], [("emit", "x")])], [("clear", "x")])])

    def test_the_first_invalid_line(self):
        self.refuse(TEXT.replace("weak w", "weak W", 1) + "\nbad", 6, 1)
        self.refuse(HEAD + "body\n  clear X\n x", 6, 1)
        # A text goes ahead of its program.
        self.refuse(HEAD.replace("node 1", "node 9") + "body\n  clear", 6, 1)

    def test_values(self):
        for value in all_but(lambda value: isinstance(value, str)):
            self.refuse(value, -1, -1)
        for text in ("", "x", "class", " class a 1", "\n" + TEXT):
            self.refuse(text, 0, 1 if text == "class" else -1 if text.startswith(" ") else 0)
        self.refuse(TEXT + "\n", len(self.lines), 0)
        self.refuse(TEXT.replace("\n", "\r\n"), 0, 3)


class Invalid(Base):
    """Texts of programs that are invalid."""

    def test_parts(self):
        self.refuse_program(HEAD.replace("node 1", "node 9") + "body", "classes", 0)
        self.refuse_program("class a 1\nclass a 1\n" + HEAD + "body", "classes", 1)
        self.refuse_program("".join(f"class {name} 1\n" for name in "abcdef") + HEAD + "body", "classes", -1)
        self.refuse_program(HEAD.replace("next", "a b c d") + "body", "classes", 0)
        self.refuse_program(HEAD.replace(" x", "") + "body", "variables", -1)
        self.refuse_program(HEAD.replace(" x", " x y x") + "body", "variables", 2)
        self.refuse_program(HEAD.replace("weak", "weak x") + "body", "weak", 0)
        self.refuse_program(HEAD.replace("old 2", "old 13") + "body", "threshold", -1)
        self.refuse_program(HEAD.replace("radices", "radices 2 4") + "body", "radices", 1)
        self.refuse_program(HEAD + "function f a : a\nbody", "functions", (0,))
        self.refuse_program(HEAD + "function f a :\n  ifnil a\n  else\n    clear b\nbody", "functions", (0, 0, 1, 0))
        self.refuse_program(HEAD + "body\n  clear x\n  call - f", "body", (1,))
        self.refuse_program(HEAD + "body" + "\n  clear x" * 61, "body", -1)


if __name__ == "__main__":
    unittest.main()
