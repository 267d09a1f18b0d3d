"""What several tests share: the document's words once more, straight and slow, and houses by chance."""

from madeagain.errors import NoName, Ring


def num(n):
    return ("number", n)


def read(name):
    return ("read", name)


class Plain:
    """Points 7 to 9: worths, reads, all names gone to, the order in which they come to be known."""

    def __init__(self, house):
        self.house = house
        self.path = []
        self.reads = {}
        self.known = {}
        self.gone = {}

    def name(self, name):
        if name in self.house[0]:
            self.gone[name] = self.house[0][name]
        elif name not in self.known:
            if name not in self.house[1]:
                raise NoName(name)
            if name in self.path:
                raise Ring(self.path[self.path.index(name):] + [name])
            self.path.append(name)
            self.known[name] = self.gone[name] = self.worth(name)
            self.path.pop()
        return self.gone[name]

    def worth(self, name):
        reads = []
        worth = self.recipe(self.house[1][name], reads)
        self.reads[name] = reads
        return worth

    def read(self, name, reads):
        worth = self.name(name)
        if (name, worth) not in reads:
            reads.append((name, worth))
        return worth

    def recipe(self, r, reads):
        if r[0] == "number":
            return r[1]
        if r[0] == "read":
            return self.read(r[1], reads)
        first = self.recipe(r[1], reads)
        if r[0] == "pick":
            return self.recipe(r[2] if first > 0 else r[3], reads)
        if r[0] == "choose":
            return self.read(r[2][first % len(r[2])], reads)
        second = self.recipe(r[2], reads)
        return {"plus": first + second, "minus": first - second, "times": first * second,
                "most": first if first > second else second}[r[0]]

    def build(self, wishes):
        for name in wishes:
            self.name(name)
        records = {name: (self.house[1][name], self.reads[name], self.known[name]) for name in self.known}
        return (self.gone, records, list(self.known))


class PlainAgain(Plain):
    """Point 10: the same from old records."""

    def __init__(self, house, old):
        Plain.__init__(self, house)
        self.old = old
        self.made = []
        self.kept = []

    def worth(self, name):
        record = self.old.get(name, (None, None, None))
        if record[0] == self.house[1][name]:
            if all(self.name(other) == number for other, number in record[1]):
                self.kept.append(name)
                self.reads[name] = record[1]
                return record[2]
        worth = Plain.worth(self, name)
        self.made.append(name)
        return worth

    def build(self, wishes):
        return Plain.build(self, wishes)[:2] + (self.made, self.kept)


class PlainStored(Plain):
    """Point 20: the same from a list of true records, to which those made are put."""

    def __init__(self, house, records):
        Plain.__init__(self, house)
        self.records = records
        self.made = []
        self.kept = []

    def worth(self, name):
        r = self.house[1][name]
        fit = [record for record in self.records if record[0] == r]
        place = 0
        while fit and all(len(record[1]) > place for record in fit):
            number = self.name(fit[0][1][place][0])
            fit = [record for record in fit if record[1][place][1] == number]
            place += 1
        if fit:
            self.kept.append(name)
            self.reads[name] = fit[0][1]
            return fit[0][2]
        worth = Plain.worth(self, name)
        self.made.append(name)
        self.records.append((r, self.reads[name], worth))
        return worth

    def build(self, wishes):
        return Plain.build(self, wishes)[:1] + (self.made, self.kept)


class PlainWeaving:
    """Point 22: begun names, the worths known so far, and who waits for whom."""

    def __init__(self, house, wishes):
        self.given, self.recipes = house
        for name in wishes:
            if name not in self.given and name not in self.recipes:
                raise NoName(name)
        self.known = dict(self.given)
        self.begun = []
        self.waits = {}
        for name in wishes:
            self.begin(name)

    def begin(self, name):
        if name in self.recipes and name not in self.begun:
            self.begun.append(name)

    def done(self):
        return all(name in self.known for name in self.begun)

    def free(self):
        return [name for name in self.begun if name not in self.known and name not in self.waits]

    def go(self, name):
        try:
            worth = Plain((self.known, {})).recipe(self.recipes[name], [])
        except NoName as e:
            if e.name not in self.recipes:
                raise
            self.begin(e.name)
            self.waits[name] = e.name
            return (name, "waits", e.name)
        self.known[name] = worth
        self.waits = {one: other for one, other in self.waits.items() if other != name}
        return (name, "known", worth)

    def ring(self):
        for name in self.begun:
            ring = [name]
            while len(ring) <= len(self.begun) and ring[-1] in self.waits:
                ring.append(self.waits[ring[-1]])
                if ring[-1] == name:
                    return ring
        return None

    def woven(self, choices):
        trace = []
        choices = list(choices)
        while not self.done():
            free = self.free()
            if not free:
                raise Ring(self.ring())
            choice = choices.pop(0) if choices else 0
            trace.append(self.go(free[choice % len(free)]))
        return trace


def answer(call):
    try:
        return call()
    except NoName as e:
        return ("NoName", e.name)
    except Ring as e:
        return ("Ring", e.ring)


def refused(told):
    return told[:1] in (("NoName",), ("Ring",))


def any_recipe(chance, names, depth):
    kind = chance.choice(["number", "read", "read", "plus", "minus", "times", "most", "pick", "choose"])
    if depth == 1 or kind in ("number", "read"):
        return num(chance.randint(-3, 3)) if kind == "number" else read(chance.choice(names))
    if kind == "choose":
        row = tuple(chance.choice(names) for _ in range(chance.randint(1, 9)))
        return (kind, any_recipe(chance, names, depth - 1), row)
    return (kind,) + tuple(any_recipe(chance, names, depth - 1) for _ in range(3 if kind == "pick" else 2))


NAMES = list("abcdefgh")


def seen_from(chance, place):
    return NAMES[:place] if chance.random() < 0.9 else NAMES + ["none"]


def any_house(chance):
    recipes = {}
    for place, name in enumerate(NAMES[3:], 3):
        recipes[name] = any_recipe(chance, seen_from(chance, place), chance.randint(1, 4))
    return ({name: chance.randint(-3, 3) for name in NAMES[:3]}, recipes)


def other_house(chance, house):
    """The house with a few changes: other numbers, other recipes, given names cooked, cooked ones given or dropped."""
    given = dict(house[0])
    recipes = dict(house[1])
    for _ in range(chance.randint(0, 3)):
        deed = chance.choice(["number", "number", "give", "cook", "cook", "drop"])
        name = chance.choice(NAMES[:3] if deed == "number" else NAMES)
        given.pop(name, None)
        recipes.pop(name, None)
        if deed in ("number", "give"):
            given[name] = chance.randint(-3, 3)
        if deed == "cook":
            recipes[name] = any_recipe(chance, seen_from(chance, max(1, NAMES.index(name))), chance.randint(1, 3))
    return (given, recipes)


def any_wishes(chance):
    return [chance.choice(NAMES) for _ in range(chance.randint(0, 4))]


def any_records(chance, house):
    """Records of several builds of several houses near this one, thrown together."""
    records = {}
    for _ in range(chance.randint(1, 4)):
        told = answer(lambda: Plain(other_house(chance, house)).build(any_wishes(chance) + NAMES[-1:]))
        if not refused(told):
            for name, record in told[1].items():
                if chance.random() < 0.8:
                    records[name] = record
    return records


def lists_in(thing):
    """Every list and dict within, itself too, as often as it stands there."""
    told = [thing] if isinstance(thing, (list, dict)) else []
    parts = list(thing.values()) if isinstance(thing, dict) else thing
    if isinstance(parts, (list, tuple)):
        for part in parts:
            told.extend(lists_in(part))
    return told


def all_different(things):
    """Whether no list or dict stands in two places of these."""
    marks = [id(part) for part in lists_in(list(things))]
    return len(marks) == len(set(marks))
