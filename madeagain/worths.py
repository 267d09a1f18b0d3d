"""The worths of names, and what their recipes read on the way (promises 7 and 8)."""

from madeagain.errors import NoName, Ring


def joined(kind, r, s):
    if kind == "plus":
        return r + s
    if kind == "minus":
        return r - s
    if kind == "times":
        return r * s
    return max(r, s)


# One recipe on the way to its worth. It stops where a name is not known and goes on from there later,
# so nothing is reckoned twice; and it keeps its own list of what is to do, so no depth is too deep.
# Beside recipes that list has steps behind them: ("join", kind), ("branch", s, t), ("among", names).
class Reckoning:
    def __init__(self, r):
        self.todo = [r]
        self.found = []
        self.reads = {}

    # Goes on as far as the known worths lead: to the first name lacking, or to the end, None.
    def lacking(self, known):
        while self.todo:
            step = self.todo.pop()
            if step[0] != "read":
                self.go_on(step)
            elif step[1] in known:
                self.reads[step[1]] = known[step[1]]
                self.found.append(known[step[1]])
            else:
                self.todo.append(step)
                return step[1]
        return None

    # What is put into todo last is done first: r ahead of s, and the step behind them at the end.
    def go_on(self, step):
        kind = step[0]
        if kind == "number":
            self.found.append(step[1])
        elif kind == "pick":
            self.todo.extend([("branch", step[2], step[3]), step[1]])
        elif kind == "choose":
            self.todo.extend([("among", step[2]), step[1]])
        elif kind == "branch":
            self.todo.append(step[1] if self.found.pop() > 0 else step[2])
        elif kind == "among":
            names = step[1]
            self.todo.append(("read", names[self.found.pop() % len(names)]))
        elif kind == "join":
            s = self.found.pop()
            r = self.found.pop()
            self.found.append(joined(step[1], r, s))
        else:
            self.todo.extend([("join", kind), step[2], step[1]])


# What is known of a house so far, and the reads of each name that a recipe was reckoned for.
class Search:
    def __init__(self, house):
        self.recipes = house[1]
        self.known = dict(house[0])
        self.reads = {}

    def begin(self, name):
        if name not in self.recipes:
            raise NoName(name)
        return Reckoning(self.recipes[name])

    def end(self, name, reckoning):
        self.known[name] = reckoning.found[0]
        self.reads[name] = list(reckoning.reads.items())

    # The path has the names being looked for, each by the one ahead.
    def settle(self, name):
        path = [name]
        begun = {}
        while path:
            last = path[-1]
            if last in self.known:
                path.pop()
                continue
            if last not in begun:
                begun[last] = self.begin(last)
            other = begun[last].lacking(self.known)
            if other is None:
                self.end(last, begun[last])
            elif other in path:
                raise Ring(path[path.index(other):] + [other])
            else:
                path.append(other)


def worth_of(house, name):
    search = Search(house)
    search.settle(name)
    return search.known[name]


def reads_of(house, name):
    search = Search(house)
    search.settle(name)
    return search.reads.get(name, [])
