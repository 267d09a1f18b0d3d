"""Names settled one after another: by an old record where it still holds, else by the recipe (promises 7 to 10)."""

from madeagain.errors import NoName, Ring
from madeagain.reckonings import Reckoning
from madeagain.recipes import is_same


# One name with a recipe on the way to its worth. As long as the reads of its old record are as they were, these
# lead the way; at the first that is not the record is let go (None), and the recipe leads.
class Settling:
    def __init__(self, r, record):
        self.recipe = r
        self.record = record
        self.place = 0
        self.reckoning = Reckoning(r)

    # Goes on as far as the known worths lead: to the first name lacking, or to the end, None.
    def lacking(self, known):
        while self.record is not None:
            if self.place == len(self.record[1]):
                return None
            read = self.record[1][self.place]
            if read[0] not in known:
                return read[0]
            if known[read[0]] == read[1]:
                self.place = self.place + 1
            else:
                self.record = None
        return self.reckoning.lacking(known)

    def was_reckoned(self):
        return self.record is None

    # The reads are a list of their own each time: the old record stays with whoever handed it in.
    def new_record(self):
        if self.was_reckoned():
            return (self.recipe, list(self.reckoning.reads.items()), self.reckoning.found[0])
        return (self.recipe, list(self.record[1]), self.record[2])


# Of a house and old records: known has the worths of all names gone to, settled the records of those with recipes,
# in the order in which they came to be known, and reckoned those of them that no old record settled.
class Search:
    def __init__(self, house, old):
        self.given = house[0]
        self.recipes = house[1]
        self.old = old
        self.known = {}
        self.settled = {}
        self.reckoned = {}

    def begin(self, name):
        if name not in self.recipes:
            raise NoName(name)
        r = self.recipes[name]
        if name in self.old and is_same(r, self.old[name][0]):
            return Settling(r, self.old[name])
        return Settling(r, None)

    def end(self, name, settling):
        record = settling.new_record()
        self.known[name] = record[2]
        self.settled[name] = record
        if settling.was_reckoned():
            self.reckoned[name] = True

    # The path has the names being looked for, each by the one ahead.
    def settle(self, name):
        path = [name]
        begun = {}
        while path:
            last = path[-1]
            if last in self.given:
                self.known[last] = self.given[last]
            if last in self.known:
                path.pop()
                continue
            if last not in begun:
                begun[last] = self.begin(last)
            other = begun[last].lacking(self.known)
            if other is None:
                self.end(last, begun[last])
            elif other in path:
                raise Ring(path[path.index(other):] + [other])
            else:
                path.append(other)


def searched(house, old, wishes):
    search = Search(house, old)
    for name in wishes:
        search.settle(name)
    return search
