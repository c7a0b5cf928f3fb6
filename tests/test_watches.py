"""Rows of entries in words, and automata that go along them: [36] to [38]."""

import random
import unittest

from chance import ENTRIES, row_of_rounds, some_word, some_words, word_for
from kinds import HUGE, all_but, is_plain_integer
from roundheap.errors import InvalidArgument, InvalidNumber
from roundheap.programs import Program
from roundheap.runs import Run
from roundheap.watches import Watch, count_row, find_row
from roundheap.words import Word

A, B, C = ("emit", "a"), ("emit", "b"), ("final", "a")
FAR = 10 ** 30


def indexes_of(row, part):
    return [index for index in range(len(row) - len(part) + 1) if row[index:index + len(part)] == part]


def states_along(start, moves, row):
    """The states ahead of the first entry and behind each one."""
    states = [start]
    for entry in row:
        move = moves[states[-1]]
        states.append(move[entry] if entry in move else move.get(None, states[-1]))
    return states


def words_by_chance(first, last):
    for seed in range(first, last):
        rng = random.Random(seed)
        pairs = [some_word(rng, 3, 8, 4)] + some_words(rng, 2, 6)[-2:]
        row = row_of_rounds(rng, 2, 3)
        pairs.append((word_for(rng, row, 5), row))
        for word, entries in pairs:
            if len(entries) <= 2000:
                yield rng, word, entries


class Base(unittest.TestCase):
    def raises(self, error, call, *arguments):
        with self.assertRaises(error) as caught:
            call(*arguments)
        self.assertIs(type(caught.exception), error)
        return caught.exception


class Rows(Base):
    def test_by_chance(self):
        found = 0
        for rng, word, entries in words_by_chance(0, 250):
            part = [rng.choice(ENTRIES[:3]) for _ in range(rng.randint(1, 3))]
            if entries and rng.random() < 0.6:
                first = rng.randrange(len(entries))
                part = entries[first:first + rng.randint(1, 8)]
            indexes = indexes_of(entries, part)
            found += len(indexes)
            end = rng.randint(0, len(entries))
            self.assertEqual(count_row(word, part, end), sum(index + len(part) <= end for index in indexes))
            for number in sorted({0, 1, len(indexes) // 2, len(indexes), rng.randint(0, len(indexes) + 3)} | set(range(max(0, len(indexes) - 2), len(indexes)))):
                self.assertEqual(find_row(word, part, number), indexes[number] if number < len(indexes) else None)
        self.assertGreater(found, 2000)

    def test_over_the_ends_of_pieces(self):
        word = (Word([A, B]) * 3 + Word([A]) + Word([A]) * FAR + Word([B, C])) * FAR
        length = word.length()
        self.assertEqual([count_row(word, [B, A, A], length), count_row(word, [A, B, C], length), count_row(word, [C, A, B], length)], [FAR, FAR, FAR - 1])
        self.assertEqual([count_row(word, [A, A], length), count_row(word, [A] * 8, length)], [FAR * FAR, FAR * (FAR + 1 - 7)])
        each = length // FAR
        self.assertEqual([find_row(word, [C, A], 10 ** 29), find_row(word, [B, A, A], 10 ** 29)], [(10 ** 29 + 1) * each - 1, 10 ** 29 * each + 5])
        self.assertEqual([find_row(word, [A, A], FAR), find_row(word, [A, A], FAR * FAR - 1), find_row(word, [A, A], FAR * FAR)], [each + 6, length - 4, None])

    def test_overlaps(self):
        word = Word([A, B]) * FAR + Word([A])
        self.assertEqual([count_row(word, [A, B, A], 2 * FAR + 1), count_row(word, [A, B, A], 2 * FAR), count_row(word, [B, A, B, A, B], 2 * FAR)], [FAR, FAR - 1, FAR - 2])
        self.assertEqual([find_row(word, [A, B, A], FAR - 1), find_row(word, [A, B, A], FAR)], [2 * FAR - 2, None])
        self.assertEqual([count_row(word=word, row=[A], end=1), find_row(word=word, row=[B], number=0), count_row(word, [A], 0)], [1, 1, 0])
        self.assertEqual([count_row(Word([]), [A], 0), find_row(Word([]), [A], 0)], [0, None])

    def test_great_numbers(self):
        word = Word([A, A, B]) * HUGE * HUGE + Word([C])
        self.assertEqual([count_row(word, [A, B, A], word.length()), count_row(word, [B, C], word.length())], [HUGE * HUGE - 1, 1])
        self.assertEqual([find_row(word, [A, B], HUGE * HUGE - 1), find_row(word, [C], 0), find_row(word, [A], HUGE * HUGE)],
                         [3 * HUGE * HUGE - 2, 3 * HUGE * HUGE, 3 * HUGE * HUGE // 2])

    def test_logs(self):
        classes = [("node", 1, ["next"], True)]
        body = [("repeat", FAR, [("new", "x", "node"), ("repeat", 10 ** 20, [("emit", "x"), ("emit", "y")])])]
        run = Run(Program(classes, body, variables=["x", "y"], weak=[], threshold=2, radices=[], functions=[]))
        log = run.view((1,)).log()
        row = [("emit", None), ("final", "node"), ("emit", "node")]
        self.assertEqual([count_row(log, row, log.length()), find_row(log, row, 0), find_row(log, row, 1)], [FAR - 1, 2 * 10 ** 20 - 1, 4 * 10 ** 20])

    def test_errors(self):
        word = Word([A, B])
        for value in all_but(lambda value: False) + [[A] * 9, [A, ("emit", "A")], [A, None], (A,), A, [("final", None)], [["emit", "a"]]]:
            if value != [A]:
                self.assertEqual(self.raises(InvalidArgument, count_row, word, value, -1).part, "row")
                self.assertEqual(self.raises(InvalidArgument, find_row, word, value, -1).part, "row")
        for value in all_but(lambda value: is_plain_integer(value) and 0 <= value <= 2):
            self.assertIs(self.raises(InvalidNumber, count_row, word, [A], value).number, value)
        for value in all_but(lambda value: is_plain_integer(value) and value >= 0):
            self.assertIs(self.raises(InvalidNumber, find_row, word, [A], value).number, value)
        self.assertEqual([count_row(word, [A] * 8, 2), self.raises(InvalidNumber, count_row, word, [A], 3).number], [0, 3])


class Watches(Base):
    def test_by_chance(self):
        for rng, word, entries in words_by_chance(250, 450):
            many = rng.randint(1, 12)
            moves = [{rng.choice(ENTRIES + [None]): rng.randrange(many) for _ in range(rng.randint(0, 4))} for _ in range(many)]
            start = rng.randrange(many)
            watch = Watch(start, moves)
            states = states_along(start, moves, entries)
            for end in {0, len(entries), rng.randint(0, len(entries))}:
                self.assertEqual(watch.after(word, end), states[end])
                for state in range(many):
                    self.assertEqual(watch.visits(word, state, end), states[1:end + 1].count(state))
            for state in range(many):
                visits = [number for number in range(1, len(states)) if states[number] == state]
                for number in {0, 1, len(visits) // 2, max(0, len(visits) - 1), len(visits), rng.randint(0, len(visits) + 2)}:
                    self.assertEqual(watch.when(word, state, number), visits[number] if number < len(visits) else None)

    def test_far(self):
        # It counts up to 12, and begins anew with each other entry.
        moves = [{A: (state + 1) % 12, B: 0} for state in range(12)]
        watch = Watch(start=0, moves=moves)
        word = (Word([A]) * (12 * FAR + 5) + Word([B])) * FAR
        each = 12 * FAR + 6
        self.assertEqual([watch.after(word, word.length()), watch.after(word, word.length() - 1), watch.after(word=word, end=each * 10 ** 20 + 13)], [0, 5, 1])
        self.assertEqual([watch.visits(word, 0, word.length()), watch.visits(word=word, state=5, end=each * 7)], [FAR * (FAR + 1), 7 * (FAR + 1)])
        self.assertEqual([watch.when(word, 5, FAR), watch.when(word=word, state=5, number=FAR + 1), watch.when(word, 0, FAR * (FAR + 1) - 1), watch.when(word, 0, FAR * (FAR + 1))],
                         [each - 1, each + 5, word.length(), None])

    def test_the_rounds_ahead_of_a_circle(self):
        # Each round leads one state on, up to the last one.
        watch = Watch(0, [{B: min(state + 1, 9)} for state in range(10)])
        word = Word([A, B, A]) * HUGE
        self.assertEqual([watch.visits(word, state, 3 * HUGE) for state in (0, 1, 8, 9)], [1, 3, 3, 3 * HUGE - 3 * 9 + 2])
        self.assertEqual([watch.when(word, 0, 0), watch.when(word, 0, 1), watch.when(word, 4, 2), watch.when(word, 9, 10 ** 40)], [1, None, 13, 10 ** 40 + 26])

    def test_other_entries(self):
        watch = Watch(1, [{None: 1, A: 0}, {B: 0}])
        word = Word([A, B, A, C, B, ("emit", None)])
        self.assertEqual([watch.after(word, end) for end in range(7)], [1, 1, 0, 0, 1, 0, 1])
        self.assertEqual(Watch(0, [{("emit", None): 0, None: 0}]).visits(word, 0, 6), 6)
        self.assertEqual([Watch(0, [{}]).after(word, 6), Watch(2, [{}] * 3).visits(word, 2, 6), Watch(0, [{}]).when(word, 0, 5)], [0, 6, 6])

    def test_later_changes(self):
        moves = [{A: 1}, {A: 0}]
        watch = Watch(0, moves)
        moves[0][A] = 0
        moves[1].clear()
        moves.pop()
        self.assertEqual([watch.after(Word([A]), 1), watch.after(Word([A, A]), 2)], [1, 0])
        self.assertEqual(moves, [{A: 0}])

    def test_errors_of_the_making(self):
        bad = [[], [{}] * 13, [{A: 1}], [{A: -1}], [{A: True}], [{A: None}], [{A: "0"}], [{A: 0.0}], [{"emit": 0}], [{("emit",): 0}], [{("emit", "A"): 0}],
               [{("final", None): 0}], [{0: 0}], [{False: 0}], [{}, None], [{}, []], ({},), {0: {}}, [{A: [0]}], [{(A,): 0}], [{frozenset(): 0}]]
        for value in bad + all_but(lambda value: False):
            if not isinstance(value, list) or value not in ([{}], [{A: 0}]):
                self.assertEqual(self.raises(InvalidArgument, Watch, None, value).part, "moves")
        for value in all_but(lambda value: is_plain_integer(value) and value in (0, 1)):
            self.assertEqual(self.raises(InvalidArgument, Watch, value, [{}, {A: 0}]).part, "start")
        self.assertEqual(Watch(11, [{None: 0}] * 12).after(Word([A]), 1), 0)

    def test_errors(self):
        watch, word = Watch(0, [{}, {}]), Word([A, B])
        for value in all_but(lambda value: is_plain_integer(value) and value in (0, 1)):
            self.assertIs(self.raises(InvalidNumber, watch.visits, word, value, None).number, value)
            self.assertIs(self.raises(InvalidNumber, watch.when, word, value, None).number, value)
        for value in all_but(lambda value: is_plain_integer(value) and 0 <= value <= 2):
            self.assertIs(self.raises(InvalidNumber, watch.visits, word, 1, value).number, value)
            self.assertIs(self.raises(InvalidNumber, watch.after, word, value).number, value)
        for value in all_but(lambda value: is_plain_integer(value) and value >= 0):
            self.assertIs(self.raises(InvalidNumber, watch.when, word, 1, value).number, value)


if __name__ == "__main__":
    unittest.main()
