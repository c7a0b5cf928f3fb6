"""Rows of entries, told by what they are made of, however long they are."""


class Row:
    """A row of entries; it never changes.

    It is one of three: a `leaf`, a tuple of entries; a `base` that comes so many `times`; or `parts` one behind
    the other, with the index at which each one begins. No part has parts, and no base has a base.
    """

    def __init__(self, leaf, base, times, parts, begins, extent):
        self.leaf = leaf
        self.base = base
        self.times = times
        self.parts = parts
        self.begins = begins
        self.extent = extent


def leaf_row(entries):
    leaf = tuple(entries)
    return Row(leaf, None, 1, (), (), len(leaf))


def repeated(row, times):
    """A row so many times, one behind the other."""
    if times == 0 or row.extent == 0:
        return leaf_row(())
    if times == 1:
        return row
    if row.base is not None:
        return repeated(row.base, row.times * times)
    return Row(None, row, times, (), (), row.extent * times)


def parts_of(row):
    return row.parts if row.parts else (row,)


def begins_of(row):
    return row.begins if row.parts else (0,)


def joined(one, other):
    """The row of both, one behind the other."""
    if one.extent == 0:
        return other
    if other.extent == 0:
        return one
    begins = begins_of(one) + tuple([one.extent + begin for begin in begins_of(other)])
    return Row(None, None, 1, parts_of(one) + parts_of(other), begins, one.extent + other.extent)


def part_index(row, at):
    """Which part has the entry with an index."""
    low = 0
    high = len(row.begins) - 1
    while low < high:
        middle = (low + high + 1) // 2
        if row.begins[middle] <= at:
            low = middle
        else:
            high = middle - 1
    return low


def entry_at(row, at):
    while row.leaf is None:
        if row.base is not None:
            row, at = row.base, at % row.base.extent
        else:
            index = part_index(row, at)
            row, at = row.parts[index], at - row.begins[index]
    return row.leaf[at]


def has_entry(row, entry):
    if row.leaf is not None:
        return entry in row.leaf
    if row.base is not None:
        return has_entry(row.base, entry)
    for part in row.parts:
        if has_entry(part, entry):
            return True
    return False


def cut_row(row, first, last):
    """The row of the entries from first to last - 1."""
    if first == last:
        return leaf_row(())
    if first == 0 and last == row.extent:
        return row
    if row.leaf is not None:
        return leaf_row(row.leaf[first:last])
    if row.base is not None:
        return cut_rounds(row.base, first, last)
    low = part_index(row, first)
    high = part_index(row, last - 1)
    begin = row.begins[low]
    if low == high:
        return cut_row(row.parts[low], first - begin, last - begin)
    middle = between_parts(row, low + 1, high)
    head = joined(cut_row(row.parts[low], first - begin, row.parts[low].extent), middle)
    return joined(head, cut_row(row.parts[high], 0, last - row.begins[high]))


def between_parts(row, low, high):
    """The row of the parts with the indexes from low to high - 1."""
    if high - low < 2:
        return row.parts[low] if low < high else leaf_row(())
    start = row.begins[low]
    begins = tuple([begin - start for begin in row.begins[low:high]])
    return Row(None, None, 1, row.parts[low:high], begins, row.begins[high] - start)


def cut_rounds(base, first, last):
    """The entries from first to last - 1 of a row that is repeated without end."""
    begin = first - first % base.extent
    if last <= begin + base.extent:
        return cut_row(base, first - begin, last - begin)
    head = cut_row(base, first - begin, base.extent)
    rest = last - begin - base.extent
    middle = repeated(base, rest // base.extent)
    return joined(joined(head, middle), cut_row(base, 0, rest % base.extent))


def listed(row, first, last):
    """The list of the entries from first to last - 1."""
    if row.leaf is not None:
        return list(row.leaf[first:last])
    if row.base is not None:
        return listed_rounds(row.base, first, last)
    entries = []
    index = part_index(row, first)
    while index < len(row.parts) and row.begins[index] < last:
        begin = row.begins[index]
        part = row.parts[index]
        entries.extend(listed(part, max(first - begin, 0), min(last - begin, part.extent)))
        index += 1
    return entries


def listed_rounds(base, first, last):
    """The list of the entries from first to last - 1 of a row that is repeated without end."""
    begin = first - first % base.extent
    if last <= begin + base.extent:
        return listed(base, first - begin, last - begin)
    head = listed(base, first - begin, base.extent)
    times, rest = divmod(last - begin - base.extent, base.extent)
    middle = listed(base, 0, base.extent) * times if times > 0 else []
    return head + middle + listed(base, 0, rest)
