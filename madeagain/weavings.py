"""Weavings: builds by many hands (promises 22 and 23)."""

from madeagain.errors import NoName, Ring
from madeagain.reckonings import Reckoning


# Known has all worths known so far, the given ones too; begun the names with recipes, in the order in which they were
# begun; awaited, by the name that waited, the last name that it waited for: it waits as long as that is not known.
class Weaving:
    def __init__(self, house, wishes):
        self.recipes = house[1]
        self.known = dict(house[0])
        self.begun = {}
        self.awaited = {}
        for name in wishes:
            self.check(name)
        for name in wishes:
            self.begin(name)

    def check(self, name):
        if name not in self.known and name not in self.recipes:
            raise NoName(name)

    def begin(self, name):
        if name not in self.known and name not in self.begun:
            self.begun[name] = Reckoning(self.recipes[name])

    def unknown(self):
        return [name for name in self.begun if name not in self.known]

    def waits(self, name):
        return name in self.awaited and self.awaited[name] not in self.known

    def may_go(self):
        return [name for name in self.unknown() if not self.waits(name)]

    def go(self, name):
        other = self.begun[name].lacking(self.known)
        if other is None:
            self.known[name] = self.begun[name].found[0]
            return (name, "known", self.known[name])
        self.check(other)
        self.begin(other)
        self.awaited[name] = other
        return (name, "waits", other)

    # Where all wait: from the name on to the first that stands there twice.
    def path_from(self, name):
        path = [name]
        other = self.awaited[name]
        while other not in path:
            path.append(other)
            other = self.awaited[other]
        path.append(other)
        return path

    def first_ring(self):
        paths = [self.path_from(name) for name in self.unknown()]
        return [path for path in paths if path[0] == path[-1]][0]


def woven(house, wishes, choices):
    weaving = Weaving(house, wishes)
    trace = []
    while weaving.unknown():
        names = weaving.may_go()
        if not names:
            raise Ring(weaving.first_ring())
        choice = choices[len(trace)] if len(trace) < len(choices) else 0
        trace.append(weaving.go(names[choice % len(names)]))
    return trace
