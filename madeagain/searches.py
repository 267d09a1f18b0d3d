"""Names settled one after another: by an old record where it still holds, else by the recipe (promises 7 to 10)."""

from madeagain.errors import NoName, Ring
from madeagain.reckonings import Reckoning
from madeagain.recipes import is_same


# Old records by the names that they were of.
class NamedRecords:
    def __init__(self, records):
        self.by_name = records

    def records_for(self, name, r):
        if name in self.by_name and is_same(r, self.by_name[name][0]):
            return [self.by_name[name]]
        return []

    # What is made is told at the end, and no other name looks for it here.
    def put_made(self, record):
        pass


# One name with a recipe on the way to its worth. As long as there are old records of the same recipe whose reads are
# as they were, these lead the way, all to the same name next or to the same end (promise 17); without them the recipe
# leads.
class Settling:
    def __init__(self, r, records):
        self.recipe = r
        self.fitting = records
        self.place = 0
        self.reckoning = Reckoning(r)

    # Goes on as far as the known worths lead: to the first name lacking, or to the end, None.
    def lacking(self, known):
        while self.fitting:
            reads = self.fitting[0][1]
            if self.place == len(reads):
                return None
            name = reads[self.place][0]
            if name not in known:
                return name
            self.fit_on(known[name])
        return self.reckoning.lacking(known)

    def fit_on(self, worth):
        self.fitting = [record for record in self.fitting if record[1][self.place][1] == worth]
        self.place = self.place + 1

    def was_reckoned(self):
        return len(self.fitting) == 0

    # The reads are a list of their own each time: the old record stays with whoever handed it in.
    def new_record(self):
        if self.was_reckoned():
            return (self.recipe, list(self.reckoning.reads.items()), self.reckoning.found[0])
        return (self.recipe, list(self.fitting[0][1]), self.fitting[0][2])


# Of a house and old records, which are NamedRecords or a Store: known has the worths of all names gone to, settled the
# records of those with recipes, in the order in which they came to be known, and reckoned those of them that no old
# record settled.
class Search:
    def __init__(self, house, old):
        self.given = house[0]
        self.recipes = house[1]
        self.old = old
        self.known = {}
        self.settled = {}
        self.reckoned = {}

    def begin(self, name):
        if name not in self.recipes:
            raise NoName(name)
        r = self.recipes[name]
        return Settling(r, self.old.records_for(name, r))

    def end(self, name, settling):
        record = settling.new_record()
        self.known[name] = record[2]
        self.settled[name] = record
        if settling.was_reckoned():
            self.reckoned[name] = True
            self.old.put_made(record)

    def made(self):
        return [name for name in self.settled if name in self.reckoned]

    def kept(self):
        return [name for name in self.settled if name not in self.reckoned]

    # The path has the names being looked for, each by the one ahead.
    def settle(self, name):
        path = [name]
        begun = {}
        while path:
            last = path[-1]
            if last in self.given:
                self.known[last] = self.given[last]
            if last in self.known:
                path.pop()
                continue
            if last not in begun:
                begun[last] = self.begin(last)
            other = begun[last].lacking(self.known)
            if other is None:
                self.end(last, begun[last])
            elif other in path:
                raise Ring(path[path.index(other):] + [other])
            else:
                path.append(other)


def searched(house, old, wishes):
    search = Search(house, old)
    for name in wishes:
        search.settle(name)
    return search
