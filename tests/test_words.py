"""Words: entries, sums, products, depth, pieces, cuts: [2], [3], [32], [33]."""

import random
import time
import unittest

from roundheap.errors import InvalidArgument, InvalidNumber, LimitExceeded
from roundheap.words import Word
from chance import ENTRIES, some_word
from kinds import HUGE, all_but, is_fine_name, is_plain_integer, odd_values

A, B, C, D = ENTRIES


class Base(unittest.TestCase):
    def wrong_number(self, value, call, *arguments):
        with self.assertRaises(InvalidNumber) as caught:
            call(*arguments)
        self.assertIs(caught.exception.number, value)

    def refused(self, value):
        with self.assertRaises(InvalidArgument) as caught:
            Word(value)
        self.assertEqual(caught.exception.part, "entries")

    def limit(self, limit, call):
        with self.assertRaises(LimitExceeded) as caught:
            call()
        self.assertEqual(caught.exception.limit, limit)


class Making(Base):
    def test_entries(self):
        row = [("emit", "a"), ("emit", None), ("final", "abcdefgh"), ("emit", "z"), ("final", "emit")]
        word = Word(row)
        self.assertEqual([word[index] for index in range(5)], row)
        self.assertEqual([word.length(), word.entries(0, 5)], [5, row])
        self.assertEqual(Word(entries=row), word)
        self.assertEqual(Word([]).length(), 0)

    def test_what_is_no_list_of_entries(self):
        for value in all_but(lambda value: isinstance(value, list) and len(value) == 0):
            self.refused(value)
            self.refused([A, value])
            self.refused([value, A])
        for value in (("final", None), ("emit", ""), ("emit", "abcdefghi"), ("emit", "A"), ("emit", "a1"), ["emit", "a"],
                      ("emit",), ("emit", "a", "b"), ("Emit", "a"), (None, "a"), ("tag", "a"), ("emit", b"a"),
                      (b"emit", "a"), ("emit", ("a",)), ("emit", False), ("final", ["a"]), (["emit"], "a")):
            self.refused([value])
        self.refused(tuple([A]))
        for value in all_but(lambda value: value is None or is_fine_name(value)):
            self.refused([("emit", value)])
            self.refused([A, ("final", value), 0])

    def test_the_list_is_not_changed_and_not_kept(self):
        row = [A, B]
        word = Word(row)
        row.append(C)
        row[0] = D
        self.assertEqual(word, Word([A, B]))
        word.entries(0, 2).append(C)
        self.assertEqual(word.entries(0, 2), [A, B])

    def test_long_lists(self):
        row = [ENTRIES[number * number % 4] for number in range(300000)]
        word = Word(row)
        self.assertEqual([word.length(), word[299999], word.entries(7, 1007)], [300000, row[-1], row[7:1007]])
        self.assertTrue(word == Word(list(row)))
        self.assertFalse(word == Word(row[:-1] + [("final", "z")]))


class Sums(Base):
    def test_by_chance(self):
        rng = random.Random(10)
        for _ in range(800):
            word, row = some_word(rng, rng.randint(1, 4), rng.randint(1, 12), 6)
            self.assertEqual(word.length(), len(row))
            self.assertEqual(word.entries(0, min(1000, len(row))), row[:1000])
            self.assertEqual(bool(word), bool(row))
            self.assertEqual([entry in word for entry in ENTRIES], [entry in row for entry in ENTRIES])
            for index in rng.sample(range(len(row)), min(5, len(row))):
                self.assertEqual(word[index], row[index])
            with self.assertRaises(InvalidNumber):
                word[len(row)]
            first = rng.randint(0, len(row))
            last = rng.randint(first, len(row))
            cut = word.cut(first, last)
            self.assertEqual(cut.entries(0, min(1000, last - first)), row[first:last][:1000])
            self.assertTrue(cut == Word(row[first:last]))
            self.assertEqual(word.entries(first, min(last, first + 1000)), row[first:min(last, first + 1000)])

    def test_words_are_not_changed(self):
        one, other = Word([A]), Word([B])
        kept = [one.entries(0, 1), other.entries(0, 1)]
        self.assertEqual([(one + other).length(), (one * 5).length(), one.cut(0, 0).length()], [2, 5, 0])
        one += other
        self.assertEqual([other.entries(0, 1), one.entries(0, 2)], [kept[1], [A, B]])

    def test_great_products(self):
        word = ((Word([A, B]) * HUGE + Word([C])) * HUGE + Word([D])) * HUGE
        inner = 2 * HUGE + 1
        self.assertEqual(word.length(), (inner * HUGE + 1) * HUGE)
        self.assertEqual([word[0], word[1], word[2 * HUGE], word[inner], word[inner * HUGE]], [A, B, C, A, D])
        self.assertEqual(word[word.length() - 1], D)
        with self.assertRaises(InvalidNumber) as caught:
            word[word.length()]
        self.assertEqual(caught.exception.number, word.length())
        self.assertEqual([D in word, ("final", "b") in word, bool(word)], [True, False, True])

    def test_nothing_so_many_times(self):
        for word in (Word([]) * HUGE, Word([A]) * 0, Word([A]) * HUGE * 0, Word([A]) * 0 * HUGE):
            self.assertEqual([word.length(), bool(word), A in word, word == Word([])], [0, False, False, True])
            self.wrong_number(0, lambda word=word: word[0])

    def test_numbers_of_times(self):
        for value in all_but(lambda value: is_plain_integer(value) and value >= 0):
            self.wrong_number(value, Word([A]).__mul__, value)
            with self.assertRaises(InvalidNumber):
                Word([A]) * value

    def test_indexes(self):
        word = Word([A, B, C])
        for value in all_but(lambda value: is_plain_integer(value) and 0 <= value < 3):
            self.wrong_number(value, lambda value=value: word[value])
        self.wrong_number(-1, lambda: word[-1])
        self.wrong_number(3, lambda: word[3])

    def test_entries_in_words(self):
        word = Word([A, D]) * 3 + Word([C])
        self.assertEqual([entry in word for entry in ENTRIES], [True, False, True, True])
        for value in odd_values():
            self.assertIs(value in word, False)
            self.assertIs(("emit", value) in word, value is None)

    def test_not_iterable(self):
        for word in (Word([]), Word([A, B])):
            for call in (iter, list, tuple, sorted, sum, lambda word: [entry for entry in word]):
                self.assertRaises(TypeError, call, word)

    def test_equal_to_nothing_else(self):
        class Same:
            def __eq__(self, other):
                return True

        word = Word([A, B])
        for value in odd_values() + [Same(), [A, B], (A, B)]:
            self.assertIs(word == value, False)
            self.assertIs(word != value, True)
        self.assertTrue(Word([A]) == Word([A]))
        self.assertFalse(Word([A]) != Word([A]))


class Limits(Base):
    def depth_of(self, word):
        """How deep a word is, by how often it can still be multiplied."""
        times = 0
        while True:
            try:
                word = word * 1
            except LimitExceeded as error:
                self.assertEqual(error.limit, 6)
                return 6 - times
            times += 1

    def pieces_of(self, word):
        """How many pieces a word has, by how many can still be added: halves of what is left, down to one."""
        added = 0
        for power in range(9, -1, -1):
            more = self.of_pieces(2 ** power)
            try:
                word = word + more
            except LimitExceeded as error:
                self.assertEqual(error.limit, 1000)
                continue
            added += 2 ** power
        return 1000 - added

    def of_pieces(self, many):
        word = Word([])
        for _ in range(many - 1):
            word = word + Word([])
        return word

    def test_depth(self):
        word = Word([A])
        for depth in range(7):
            self.assertEqual(self.depth_of(word), depth)
            self.assertEqual(self.depth_of(word + Word([B]) * 2), max(depth, 1))
            self.assertEqual(self.depth_of(Word([B]) * 2 * 3 + word), max(depth, 2))
            self.assertEqual(self.depth_of(word.cut(0, 0)), depth)
            self.assertEqual(self.depth_of(word.cut(0, word.length())), depth)
            if depth < 6:
                word = word * 3
        self.limit(6, lambda: word * 3)
        self.limit(6, lambda: word * 0)
        self.limit(6, lambda: word * 1)
        self.limit(6, lambda: (word + Word([A])) * 2)
        self.limit(6, lambda: word.cut(2, 3) * 2)
        self.assertEqual(word.length(), 3 ** 6)
        # Also a product with 0, with 1, or of no entries is one deeper.
        self.assertEqual([self.depth_of(Word([A]) * 0), self.depth_of(Word([A]) * 1), self.depth_of(Word([]) * 2)], [1] * 3)

    def test_a_wrong_number_comes_ahead_of_the_depth(self):
        word = Word([A]) * 1 * 1 * 1 * 1 * 1 * 1
        for value in (-1, True, None, 1.0, "1", [], word):
            self.wrong_number(value, word.__mul__, value)

    def test_pieces(self):
        self.assertEqual(self.pieces_of(Word([])), 1)
        self.assertEqual(self.pieces_of(Word([A] * 5000)), 1)
        self.assertEqual(self.pieces_of(Word([A]) + Word([B]) + Word([])), 3)
        self.assertEqual(self.pieces_of((Word([A]) + Word([B])) * HUGE), 2)
        self.assertEqual(self.pieces_of((Word([A]) + Word([B])) * 0), 2)
        word = (Word([A]) + Word([B]) + Word([C])) * 9
        self.assertEqual([self.pieces_of(word.cut(1, 20)), self.pieces_of(word.cut(4, 4))], [3, 3])
        self.assertEqual(self.pieces_of(self.of_pieces(1000)), 1000)

    def test_one_thousand_pieces(self):
        half = self.of_pieces(500) + Word([A])
        self.assertEqual((half + self.of_pieces(499)).length(), 1)
        self.limit(1000, lambda: half + self.of_pieces(500))
        self.limit(1000, lambda: half * HUGE + self.of_pieces(500))
        self.limit(1000, lambda: self.of_pieces(1000) + Word([]))
        self.limit(1000, lambda: Word([]) + self.of_pieces(1000))
        self.limit(1000, lambda: half.cut(0, 0) + self.of_pieces(500))


class Cuts(Base):
    def test_great_cuts(self):
        word = (Word([A, B]) * HUGE + Word([C])) * HUGE
        inner = 2 * HUGE + 1
        cut = word.cut(inner - 2, inner * 3 + 1)
        self.assertEqual(cut.length(), 2 * inner + 3)
        self.assertEqual(cut.entries(0, 4), [B, C, A, B])
        self.assertEqual(cut.entries(2 * inner, 2 * inner + 3), [B, C, A])
        self.assertTrue(cut == Word([B, C]) + (Word([A, B]) * HUGE + Word([C])) * 2 + Word([A]))
        self.assertEqual(word.entries(inner * 7 - 500, inner * 7 + 500)[497:503], [A, B, C, A, B, A])
        self.assertEqual(word.cut(word.length(), word.length()).length(), 0)
        self.assertTrue(word.cut(0, word.length()) == word)
        begin = time.process_time()
        for first in range(0, 5000, 7):
            self.assertEqual(word.cut(first * HUGE, word.length()).cut(first, first + 1).length(), 1)
        self.assertLess(time.process_time() - begin, 20)

    def test_cuts_of_cuts(self):
        word = Word([A, B, C]) * 10 ** 9 * 10 ** 9
        for _ in range(400):
            word = word.cut(1, word.length() - 1)
        self.assertTrue(word == (Word([A, B, C]) * 10 ** 18).cut(400, 3 * 10 ** 18 - 400))

    def test_indexes_of_cuts(self):
        word = Word([A, B, C]) * 2
        for call in (word.cut, word.entries):
            for value in all_but(lambda value: is_plain_integer(value) and 0 <= value <= 6):
                self.wrong_number(value, call, value, 6)
                self.wrong_number(value, call, value, value)
                self.wrong_number(value, call, 0, value)
            for first, last in ((7, 7), (-1, 3), (True, 3), (7, 0)):
                self.wrong_number(first, call, first, last)
            for first, last in ((0, 7), (3, 2), (6, 5), (2, True), (0, -1)):
                self.wrong_number(last, call, first, last)
            call(0, 0), call(6, 6), call(first=2, last=4)

    def test_a_thousand_entries(self):
        word = Word([A, B]) * HUGE
        self.assertEqual(word.entries(HUGE, HUGE + 1000), [A, B] * 500)
        for last in (HUGE + 1001, HUGE * 2):
            self.wrong_number(last, word.entries, HUGE, last)
        self.assertEqual(word.cut(HUGE, HUGE + 1001).length(), 1001)
        short = Word([A]) * 1500
        self.wrong_number(1001, short.entries, 0, 1001)
        self.assertEqual(len(short.entries(500, 1500)), 1000)


if __name__ == "__main__":
    unittest.main()
