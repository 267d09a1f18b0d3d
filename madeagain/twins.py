"""Twins of records, and the reach of changes (promises 14 and 15)."""

from madeagain.again import build_again
from madeagain.errors import NoRead
from madeagain.recipes import is_recipe

# A row of three is three deep, and the sum of up to 32 parts five more: together no deeper than a recipe may be.
LONGEST_ROW = 3


def rows_of(reads):
    return [reads[place:place + LONGEST_ROW] for place in range(0, len(reads), LONGEST_ROW)]


# Looks for all names of a row and comes to the last one's worth: a choice from one name is that name.
# (It takes one recipe a read, where a sum takes two: so there is room for more reads.)
def reading(row):
    r = ("read", row[0][0])
    for read in row[1:]:
        r = ("choose", r, (read[0],))
    return r


# Halves, and halves of these, so that it is no deeper than it has to be.
def summed(parts):
    if len(parts) == 1:
        return parts[0]
    half = len(parts) // 2
    return ("plus", summed(parts[:half]), summed(parts[half:]))


# The k-th read ends a row, so its number goes into the sum, and no other number gives the same sum.
def twin_of(record, k):
    reads = record[1]
    if not 0 <= k < len(reads):
        raise NoRead("the record has no such read")
    if len(set([read[0] for read in reads])) < len(reads):
        raise NoRead("no recipe reads a name twice")
    rows = rows_of(reads[:k + 1]) + rows_of(reads[k + 1:])
    rest = record[2] - sum([row[-1][1] for row in rows])
    twin = summed([reading(row) for row in rows] + [("number", rest)])
    if not is_recipe(twin):
        raise NoRead("more reads than a recipe has room for")
    return twin


def reach_of(house, records, wishes, changes):
    given = dict(house[0])
    given.update(changes)
    build = build_again((given, house[1]), records, wishes)
    worths = build[0]
    made = build[2]
    other = [name for name in made if name in records and records[name][2] != worths[name]]
    return (made, other)
