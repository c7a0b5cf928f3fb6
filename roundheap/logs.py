"""Items of a log: entries, and rows of entries that were not written one by one."""

from roundheap.rows import joined, leaf_row


def row_of_items(items, first, last):
    """The row of the items with the indexes from first to last - 1."""
    row = leaf_row(())
    entries = []
    for item in items[first:last]:
        if isinstance(item, tuple):
            entries.append(item)
        else:
            row = joined(joined(row, leaf_row(entries)), item)
            entries = []
    return joined(row, leaf_row(entries))
