"""How far words agree, equality, and periods: [32], [34], [35], [38]."""

import random
import time
import unittest

from roundheap.errors import InvalidNumber, LimitExceeded
from roundheap.words import Word, agreeing, first_difference, has_period
from chance import ENTRIES, agreement, row_of_rounds, some_word, some_words, word_for
from kinds import HUGE, all_but, is_plain_integer

A, B, C, D = ENTRIES
ONE, OTHER = Word([A]), Word([B])


def period_holds(row, period):
    return row[period:] == row[:max(0, len(row) - period)]


def turned(word, times, at):
    """The word so many times, told by a product that begins within it."""
    head, tail = word.cut(0, at), word.cut(at, word.length())
    return head + (tail + head) * (times - 1) + tail


def parted(rng, entry, length, many):
    """An entry so often, as a sum of so many products."""
    ends = sorted({rng.randint(1, length - 1) for _ in range(many - 1)}) + [length]
    word = Word([entry]) * ends[0]
    for begin, end in zip(ends, ends[1:]):
        word = word + Word([entry]) * (end - begin)
    return word


class Base(unittest.TestCase):
    def wrong_number(self, value, call, *arguments):
        with self.assertRaises(InvalidNumber) as caught:
            call(*arguments)
        self.assertIs(caught.exception.number, value)

    def soon(self, call):
        begin = time.process_time()
        result = call()
        self.assertLess(time.process_time() - begin, 10)
        return result

    def check(self, rng, one, row, other, second):
        self.assertEqual(one == other, row == second)
        same = agreement(row, 0, second, 0)
        self.assertEqual(first_difference(one, other), None if row == second else same)
        for _ in range(4):
            begin, start = rng.randint(0, len(row)), rng.randint(0, len(second))
            if rng.random() < 0.5:
                start = min(len(second), begin + rng.randint(0, 12))
            self.assertEqual(agreeing(one, begin, other, start), agreement(row, begin, second, start))
        period = rng.randint(1, len(row) + 2)
        self.assertIs(has_period(one, period), period_holds(row, period))


class Chance(Base):
    def test_sums_products_and_cuts(self):
        rng = random.Random(11)
        for _ in range(2500):
            kinds = rng.choice([1, 2, 2, 2, 3, 4])
            one, row = some_word(rng, kinds, rng.randint(1, 14), 6)
            other, second = some_word(rng, kinds, rng.randint(1, 14), 6)
            self.check(rng, one, row, other, second)
            self.assertTrue(one == Word(row))

    def test_words_that_share_what_they_are_made_of(self):
        rng = random.Random(16)
        for _ in range(250):
            words = some_words(rng, rng.choice([1, 2, 2, 3]), 14)
            for _ in range(12):
                one, row = rng.choice(words)
                other, second = rng.choice(words)
                self.check(rng, one, row, other, second)

    def test_what_is_learned_of_a_word_and_itself(self):
        word = Word([A, A, B, A, A, B])
        one = word * 10 + Word([C]) + word * 10
        other = word * 10 + Word([A, A, B]) + Word([C]) + Word([A]) + word * 10
        # They agree, one shifted by a period that is shorter than the list; then they do not.
        self.assertEqual(agreeing(one, 1, other, 4), 62)
        self.assertEqual(agreeing(one, 1, other, 7), 56)

    def test_the_same_entries_made_otherwise(self):
        rng = random.Random(12)
        for _ in range(500):
            row = row_of_rounds(rng, rng.choice([1, 2, 2, 3]), rng.randint(1, 4))
            second = list(row)
            if rng.random() < 0.5:
                second[rng.randrange(len(second))] = rng.choice(ENTRIES)
            try:
                one, other = word_for(rng, row, 6), word_for(rng, second, 6)
            except LimitExceeded:
                continue
            self.check(rng, one, row, other, second)


class Great(Base):
    def test_products_of_products(self):
        word = Word([A, B, A])
        self.assertTrue(word * HUGE * 3 == word * 3 * HUGE)
        self.assertTrue(word * (HUGE * HUGE) == word * HUGE * HUGE)
        self.assertFalse(word * HUGE * 3 == word * (3 * HUGE + 1))
        self.assertTrue(ONE * HUGE + ONE == ONE + ONE * HUGE)
        self.assertFalse(ONE * HUGE + OTHER == OTHER + ONE * HUGE)
        self.assertTrue(OTHER + (ONE + OTHER) * HUGE == (OTHER + ONE) * HUGE + OTHER)
        self.assertEqual(first_difference(ONE * HUGE, ONE * (HUGE + 1)), HUGE)
        self.assertEqual(first_difference(ONE * (HUGE + 1), ONE * HUGE), HUGE)

    def test_a_difference_far_behind(self):
        one = (ONE * HUGE + OTHER) * HUGE
        other = (ONE * HUGE + OTHER) * (HUGE - 1) + ONE * (HUGE + 1)
        self.assertEqual(first_difference(one, other), (HUGE + 1) * HUGE - 1)
        self.assertEqual(first_difference(one, one + OTHER), one.length())
        self.assertEqual(agreeing(one, HUGE + 1, one, 0), (HUGE + 1) * (HUGE - 1))
        self.assertEqual(agreeing(one, 1, one, 0), HUGE - 1)
        self.assertEqual(agreeing(one, HUGE - 5, one, 2 * HUGE - 4), (HUGE + 1) * (HUGE - 1) - HUGE + 5)
        self.assertEqual(agreeing(one, one.length(), one, 0), 0)

    def test_as_many_entries_as_both_have_together(self):
        # Words of the lengths 10 ** 40 + 1 and 10 ** 40 that agree for nearly as many entries as both have together.
        length = 10 ** 40
        one = ONE * (length - 1) + OTHER
        other = ONE * length + OTHER
        self.assertEqual(agreeing(one * HUGE, 0, other * HUGE, 1), length - 1 + length)
        self.assertEqual(agreeing(one * HUGE, 0, other * HUGE, 0), length - 1)
        self.assertEqual(agreeing(other * HUGE, 0, other * 7, 0), 7 * length + 7)

    def test_turned_words(self):
        rng = random.Random(13)
        word = Word([A, B]) * 7 + Word([C])
        for depth in range(3):
            word = word * rng.randint(2, 10 ** 30) + Word([rng.choice(ENTRIES)]) * rng.randint(1, 10 ** 30)
        for _ in range(20):
            at, times = rng.randint(0, word.length()), rng.randint(2, 10 ** 40)
            self.assertTrue(self.soon(lambda: turned(word, times, at) == word * times))
            self.assertEqual(first_difference(turned(word, times, at) + Word([D]), word * times * 2),
                             None if word[0] == D else times * word.length())
            self.assertTrue(has_period(turned(word, times, at), word.length()))
            self.assertFalse(has_period(turned(word, times, at), word.length() - 1))

    def test_many_pieces(self):
        rng = random.Random(14)
        length = 10 ** 30
        one = parted(rng, A, length, 999) + OTHER
        other = parted(rng, A, length, 999) + OTHER
        shorter = parted(rng, A, 10 ** 5, 1000)
        self.assertTrue(self.soon(lambda: one * HUGE == other * HUGE))
        self.assertTrue(self.soon(lambda: one * HUGE * 3 == other * 3 * HUGE))
        self.assertEqual(self.soon(lambda: agreeing(one * HUGE, 1, other * HUGE, 0)), length - 1)
        self.assertEqual(self.soon(lambda: agreeing(one * HUGE, 0, shorter * HUGE, 17)), length)
        self.assertTrue(self.soon(lambda: parted(rng, A, length, 1000) * 10 ** 5 == shorter * length))
        self.assertTrue(self.soon(lambda: has_period(one * HUGE, length + 1)))

    def test_many_pieces_deep_within(self):
        rng = random.Random(15)
        one = other = Word([A, B])
        for depth in range(6):
            more = [rng.choice([ONE, OTHER]) for _ in range(20)]
            times = rng.randint(2, 10 ** 20)
            for piece in more:
                one, other = one + piece, other + piece
            one = one * times
            other = turned(other, times, rng.randint(0, other.length())) if depth in (1, 4) else other * times
        self.assertTrue(self.soon(lambda: one == other))
        self.assertEqual(first_difference(one + ONE, other + OTHER), one.length())

    def test_long_lists_and_products(self):
        row = [ENTRIES[number * number % 4] for number in range(1000)]
        long = Word(row * 300)
        self.assertTrue(self.soon(lambda: long == Word(row) * 300))
        self.assertTrue(self.soon(lambda: long * HUGE == Word(row) * (300 * HUGE)))
        self.assertEqual(self.soon(lambda: agreeing(Word([A]) * HUGE, 3, Word([A] * 200000 + [B]), 5)), 199995)


class Periods(Base):
    def test_great_periods(self):
        word = (Word([A, B]) * HUGE + Word([C])) * HUGE
        inner = 2 * HUGE + 1
        for period in (inner, inner * HUGE - inner, inner * HUGE, inner * HUGE * HUGE):
            self.assertIs(has_period(word, period), True)
        for period in (1, 2, 2 * HUGE, inner + 2, inner * HUGE - 2):
            self.assertIs(has_period(word, period), False)
        self.assertIs(has_period(word, inner * HUGE - 1), False)
        self.assertIs(has_period(Word([A, B]) * HUGE + ONE, 2), True)
        self.assertIs(has_period(Word([A, B]) * HUGE + ONE, 2 * HUGE), True)
        self.assertIs(has_period(Word([A, B]) * HUGE + OTHER, 2), False)

    def test_periods_as_long_as_the_word(self):
        for word in (Word([]), Word([A]), Word([A, B, C])):
            for period in (3, 4, HUGE):
                self.assertIs(has_period(word, period), True)
        self.assertEqual([has_period(Word([A, B, A]), period) for period in (1, 2, 3)], [False, True, True])
        self.assertIs(has_period(period=1, word=Word([])), True)

    def test_numbers(self):
        for value in all_but(lambda value: is_plain_integer(value) and value >= 1):
            self.wrong_number(value, has_period, Word([A]), value)
        self.wrong_number(0, has_period, Word([]), 0)


class Indexes(Base):
    def test_indexes_of_any_kind(self):
        one, other = Word([A, A]), Word([A]) * 3
        for value in all_but(lambda value: is_plain_integer(value) and 0 <= value <= 2):
            self.wrong_number(value, agreeing, one, value, other, 0)
            self.wrong_number(value, agreeing, one, value, other, -1)
            self.wrong_number(value, agreeing, one, 0, other, value)
        for first, second in ((3, 0), (-1, 4), (True, 0), (3, 4)):
            self.wrong_number(first, agreeing, one, first, other, second)
        for first, second in ((0, 4), (2, -1), (1, True)):
            self.wrong_number(second, agreeing, one, first, other, second)
        self.assertEqual([agreeing(one, 2, other, 0), agreeing(one, 0, other, 3), agreeing(one, 0, other, 1)], [0, 0, 2])
        self.assertEqual(agreeing(one=one, first=1, other=other, second=0), 1)

    def test_first_difference(self):
        self.assertIsNone(first_difference(Word([]), Word([]) * 5))
        self.assertIsNone(first_difference(one=Word([A, B]), other=ONE + OTHER))
        self.assertEqual(first_difference(Word([]), Word([A])), 0)
        self.assertEqual(first_difference(Word([A, B]), Word([A])), 1)
        self.assertEqual(first_difference(Word([A, B]), Word([A, C])), 1)
        self.assertEqual(first_difference(Word([D]), Word([A])), 0)
        self.assertEqual(first_difference(Word([("emit", "a")]), Word([("final", "a")])), 0)


if __name__ == "__main__":
    unittest.main()
