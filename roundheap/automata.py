"""Automata that go along rows of entries, by what the rows are made of.

An automaton has a list of (ways, other) for its states: a dict from entries to the next states, and the state to which
every other entry leads. What is known of a row and a state is kept in a dict for as long as one question is asked.
"""


class Pass:
    """What an automaton does along a row: the state behind it, and how often it was in the state that is looked for."""

    def __init__(self, state, visits):
        self.state = state
        self.many = visits


class Question:
    """An automaton, the state whose visits are counted, and what is known of rows that begin in a state."""

    def __init__(self, ways, target):
        self.ways = ways
        self.target = target
        self.known = {}


def next_state(ways, state, entry):
    table, other = ways[state]
    return table.get(entry, other)


def along(question, row, state):
    """The pass along a row that begins in a state."""
    key = (row, state)
    if key not in question.known:
        if row.leaf is not None:
            question.known[key] = along_leaf(question, row.leaf, state)
        elif row.base is not None:
            question.known[key] = along_rounds(question, row.base, row.times, state)
        else:
            question.known[key] = along_parts(question, row.parts, state)
    return question.known[key]


def along_leaf(question, leaf, state):
    visits = 0
    for entry in leaf:
        state = next_state(question.ways, state, entry)
        if state == question.target:
            visits += 1
    return Pass(state, visits)


def along_parts(question, parts, state):
    visits = 0
    for part in parts:
        passed = along(question, part, state)
        state = passed.state
        visits += passed.many
    return Pass(state, visits)


def laps_of(question, base, state):
    """(states, sums, first): the states ahead of rounds until one comes again, the visits ahead of these rounds.

    The state behind the last of these rounds is that with the index `first`.
    """
    states = [state]
    sums = [0]
    while True:
        passed = along(question, base, states[-1])
        sums.append(sums[-1] + passed.many)
        if passed.state in states:
            return states, sums, states.index(passed.state)
        states.append(passed.state)


def along_rounds(question, base, times, state):
    states, sums, first = laps_of(question, base, state)
    if times < len(states):
        return Pass(states[times], sums[times])
    laps, rest = divmod(times - first, len(states) - first)
    visits = sums[first + rest] + laps * (sums[-1] - sums[first])
    return Pass(states[first + rest], visits)


def visit_in(question, row, state, number):
    """Behind how many entries of a row the visit with a number, from 0 on, is; there are more visits than this."""
    done = 0
    while row.leaf is None:
        if row.base is not None:
            rounds, state, number = round_with(question, row.base, state, number)
            done += rounds * row.base.extent
            row = row.base
        else:
            row, state, number, length = part_with(question, row, state, number)
            done += length
    for entry in row.leaf:
        done += 1
        state = next_state(question.ways, state, entry)
        if state == question.target:
            if number == 0:
                return done
            number -= 1
    return done


def round_with(question, base, state, number):
    """(rounds ahead, state ahead, number in it) of the round that has the visit with a number."""
    states, sums, first = laps_of(question, base, state)
    rounds = 0
    if number >= sums[-1]:
        laps, rest = divmod(number - sums[first], sums[-1] - sums[first])
        rounds = laps * (len(states) - first)
        number = sums[first] + rest
    index = 0
    while sums[index + 1] <= number:
        index += 1
    return rounds + index, states[index], number - sums[index]


def part_with(question, row, state, number):
    """(part, state ahead, number in it, entries ahead) of the part that has the visit with a number."""
    index = 0
    passed = along(question, row.parts[0], state)
    while number >= passed.many:
        number -= passed.many
        state = passed.state
        index += 1
        passed = along(question, row.parts[index], state)
    return row.parts[index], state, number, row.begins[index]


def ways_for(entries):
    """The automaton whose last state is that behind a list of entries; it may overlap itself."""
    ways = []
    for state in range(len(entries) + 1):
        table = {entry: longest_end(entries, entries[:state] + [entry]) for entry in entries}
        ways.append((table, 0))
    return ways


def longest_end(entries, seen):
    """The length of the longest beginning of a list that is the end of another one."""
    length = min(len(entries), len(seen))
    while length > 0 and entries[:length] != seen[len(seen) - length:]:
        length -= 1
    return length
