"""Stores of true records, and builds from them (promises 19 to 21)."""

from madeagain.behind import is_true_record
from madeagain.errors import NoRecord
from madeagain.searches import searched


# A record in a form that nobody can change, and that a dict can have as a key.
def row_of(record):
    return (record[0], tuple(record[1]), record[2])


# Rows has each record once, in the order in which they were put, and by_recipe has them once more by their recipes.
class Store:
    def __init__(self):
        self.rows = {}
        self.by_recipe = {}

    def put(self, record):
        if not is_true_record(record):
            raise NoRecord("what is no true record is not put")
        return self.put_made(record)

    # What a build has made is true and not asked again. (So a recipe beyond the bounds, too, is made but once.)
    def put_made(self, record):
        row = row_of(record)
        if row in self.rows:
            return False
        self.rows[row] = True
        self.by_recipe.setdefault(record[0], []).append(row)
        return True

    def take(self, things):
        refused = []
        for place, thing in enumerate(things):
            if is_true_record(thing):
                self.put_made(thing)
            else:
                refused.append(place)
        return refused

    def records(self):
        return [(row[0], list(row[1]), row[2]) for row in self.rows]

    def size(self):
        return len(self.rows)

    # Of whatever name they once were.
    def records_for(self, name, r):
        return list(self.by_recipe.get(r, []))

    def search(self, house, wishes):
        return searched(house, self, wishes)

    def build(self, house, wishes):
        search = self.search(house, wishes)
        return (search.known, search.made(), search.kept())
