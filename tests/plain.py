"""What several tests share: the document's words once more, straight and slow, and houses by chance."""

import re

from madeagain.errors import MadeError, NoDeed, NoName, NoRecord, NoRow, Ring
from madeagain.recordtexts import show_record
from madeagain.texts import read_recipe


def num(n):
    return ("number", n)


def read(name):
    return ("read", name)


class Plain:
    """Points 7 to 9: worths, reads, all names gone to, the order in which they come to be known."""

    def __init__(self, house):
        self.house = house
        self.path = []
        self.reads = {}
        self.known = {}
        self.gone = {}

    def name(self, name):
        if name in self.house[0]:
            self.gone[name] = self.house[0][name]
        elif name not in self.known:
            if name not in self.house[1]:
                raise NoName(name)
            if name in self.path:
                raise Ring(self.path[self.path.index(name):] + [name])
            self.path.append(name)
            self.known[name] = self.gone[name] = self.worth(name)
            self.path.pop()
        return self.gone[name]

    def worth(self, name):
        reads = []
        worth = self.recipe(self.house[1][name], reads)
        self.reads[name] = reads
        return worth

    def read(self, name, reads):
        worth = self.name(name)
        if (name, worth) not in reads:
            reads.append((name, worth))
        return worth

    def recipe(self, r, reads):
        if r[0] == "number":
            return r[1]
        if r[0] == "read":
            return self.read(r[1], reads)
        first = self.recipe(r[1], reads)
        if r[0] == "pick":
            return self.recipe(r[2] if first > 0 else r[3], reads)
        if r[0] == "choose":
            return self.read(r[2][first % len(r[2])], reads)
        second = self.recipe(r[2], reads)
        return {"plus": first + second, "minus": first - second, "times": first * second,
                "most": first if first > second else second}[r[0]]

    def build(self, wishes):
        for name in wishes:
            self.name(name)
        records = {name: (self.house[1][name], self.reads[name], self.known[name]) for name in self.known}
        return (self.gone, records, list(self.known))


class PlainAgain(Plain):
    """Point 10: the same from old records."""

    def __init__(self, house, old):
        Plain.__init__(self, house)
        self.old = old
        self.made = []
        self.kept = []

    def worth(self, name):
        record = self.old.get(name, (None, None, None))
        if record[0] == self.house[1][name]:
            if all(self.name(other) == number for other, number in record[1]):
                self.kept.append(name)
                self.reads[name] = record[1]
                return record[2]
        worth = Plain.worth(self, name)
        self.made.append(name)
        return worth

    def build(self, wishes):
        return Plain.build(self, wishes)[:2] + (self.made, self.kept)


class PlainStored(Plain):
    """Point 20: the same from a list of true records, to which those made are put."""

    def __init__(self, house, records):
        Plain.__init__(self, house)
        self.records = records
        self.made = []
        self.kept = []

    def worth(self, name):
        r = self.house[1][name]
        fit = [record for record in self.records if record[0] == r]
        place = 0
        while fit and all(len(record[1]) > place for record in fit):
            number = self.name(fit[0][1][place][0])
            fit = [record for record in fit if record[1][place][1] == number]
            place += 1
        if fit:
            self.kept.append(name)
            self.reads[name] = fit[0][1]
            return fit[0][2]
        worth = Plain.worth(self, name)
        self.made.append(name)
        self.records.append((r, self.reads[name], worth))
        return worth

    def build(self, wishes):
        return Plain.build(self, wishes)[:1] + (self.made, self.kept)


class PlainWeaving:
    """Point 22: begun names, the worths known so far, and who waits for whom."""

    def __init__(self, house, wishes):
        self.given, self.recipes = house
        for name in wishes:
            if name not in self.given and name not in self.recipes:
                raise NoName(name)
        self.known = dict(self.given)
        self.begun = []
        self.waits = {}
        for name in wishes:
            self.begin(name)

    def begin(self, name):
        if name in self.recipes and name not in self.begun:
            self.begun.append(name)

    def done(self):
        return all(name in self.known for name in self.begun)

    def free(self):
        return [name for name in self.begun if name not in self.known and name not in self.waits]

    def go(self, name):
        try:
            worth = Plain((self.known, {})).recipe(self.recipes[name], [])
        except NoName as e:
            if e.name not in self.recipes:
                raise
            self.begin(e.name)
            self.waits[name] = e.name
            return (name, "waits", e.name)
        self.known[name] = worth
        self.waits = {one: other for one, other in self.waits.items() if other != name}
        return (name, "known", worth)

    def ring(self):
        for name in self.begun:
            ring = [name]
            while len(ring) <= len(self.begun) and ring[-1] in self.waits:
                ring.append(self.waits[ring[-1]])
                if ring[-1] == name:
                    return ring
        return None

    def woven(self, choices):
        trace = []
        choices = list(choices)
        while not self.done():
            free = self.free()
            if not free:
                raise Ring(self.ring())
            choice = choices.pop(0) if choices else 0
            trace.append(self.go(free[choice % len(free)]))
        return trace


class PlainHistory:
    """Point 25, and 27 for one case: the house is made anew from the deeds that stand."""

    def __init__(self):
        self.standing = []
        self.undone = []
        self.records = []
        self.made = []
        self.kept = []
        self.why = {}
        self.wished = None

    def house(self):
        given, recipes = {}, {}
        for deed in self.standing:
            given.pop(deed[1], None)
            recipes.pop(deed[1], None)
            if deed[0] != "drop":
                (given if deed[0] == "give" else recipes)[deed[1]] = deed[2]
        return (given, recipes)

    def deed(self, *deed):
        if deed[0] == "drop" and deed[1] not in {**self.house()[0], **self.house()[1]}:
            raise NoName(deed[1])
        self.standing.append(deed)
        self.undone = []

    def undo(self):
        if not self.standing:
            raise NoDeed()
        self.undone.append(self.standing.pop())

    def redo(self):
        if not self.undone:
            raise NoDeed()
        self.standing.append(self.undone.pop())

    def wish(self, names):
        plain = PlainStored(self.house(), self.records)
        worths, self.made, self.kept = plain.build(names)
        self.why = {name: (plain.house[1][name], plain.reads[name], plain.known[name]) for name in plain.known}
        self.wished = names
        return [worths[name] for name in names]

    def clean(self, names):
        plain = PlainStored(self.house(), self.records)
        try:
            made = plain.build(names)[1]
        except MadeError:
            raise NoRecord()
        if made:
            raise NoRecord()
        keeping = [(plain.house[1][name], plain.reads[name], plain.known[name]) for name in plain.known]
        self.records = [record for record in self.records if record in keeping]
        return len(self.records)


class PlainDesk(PlainHistory):
    """Points 29 and 30: each kind of row by a pattern."""

    NAME = "([a-z]{1,8})"
    NUMBER = "(0|-?[1-9][0-9]{0,39})"

    def say(self, row):
        for pattern, call in (
                (f"give {self.NAME} {self.NUMBER}", lambda name, n: self.deed("give", name, int(n)) or "ok"),
                (f"cook {self.NAME} (.*)", lambda name, text: self.deed("cook", name, read_recipe(text)) or "ok"),
                (f"drop {self.NAME}", lambda name: self.deed("drop", name) or "ok"),
                ("undo", lambda: self.undo() or "ok"),
                ("redo", lambda: self.redo() or "ok"),
                (f"wish ({self.NAME}( {self.NAME})*)",
                 lambda names, *rest: " ".join(map(str, self.wish(names.split(" "))))),
                ("made", lambda: " ".join(self.made) or "none"),
                ("kept", lambda: " ".join(self.kept) or "none"),
                (f"why {self.NAME}", self.say_why),
                ("deeds", lambda: str(len(self.standing))),
                ("records", lambda: str(len(self.records))),
                ("clean", self.say_clean)):
            match = re.fullmatch(pattern, row, re.DOTALL)
            if match:
                return call(*match.groups())
        raise NoRow()

    def say_why(self, name):
        if name not in self.why:
            raise NoName(name)
        return show_record(self.why[name])

    def say_clean(self):
        if self.wished is None:
            raise NoRecord()
        return str(self.clean(self.wished))


REFUSALS = ("NoName", "Ring", "NoRead", "NoRecord", "NoDeed", "NoText", "NoRow")


def answer(call):
    try:
        return call()
    except NoName as e:
        return ("NoName", e.name)
    except Ring as e:
        return ("Ring", e.ring)
    except MadeError as e:
        return (type(e).__name__,)


def refused(told):
    return isinstance(told, tuple) and told[:1] != () and told[0] in REFUSALS


def any_recipe(chance, names, depth):
    kind = chance.choice(["number", "read", "read", "plus", "minus", "times", "most", "pick", "choose"])
    if depth == 1 or kind in ("number", "read"):
        return num(chance.randint(-3, 3)) if kind == "number" else read(chance.choice(names))
    if kind == "choose":
        row = tuple(chance.choice(names) for _ in range(chance.randint(1, 9)))
        return (kind, any_recipe(chance, names, depth - 1), row)
    return (kind,) + tuple(any_recipe(chance, names, depth - 1) for _ in range(3 if kind == "pick" else 2))


NAMES = list("abcdefgh")


def seen_from(chance, place):
    return NAMES[:place] if chance.random() < 0.9 else NAMES + ["none"]


def any_house(chance):
    recipes = {}
    for place, name in enumerate(NAMES[3:], 3):
        recipes[name] = any_recipe(chance, seen_from(chance, place), chance.randint(1, 4))
    return ({name: chance.randint(-3, 3) for name in NAMES[:3]}, recipes)


def other_house(chance, house):
    """The house with a few changes: other numbers, other recipes, given names cooked, cooked ones given or dropped."""
    given = dict(house[0])
    recipes = dict(house[1])
    for _ in range(chance.randint(0, 3)):
        deed = chance.choice(["number", "number", "give", "cook", "cook", "drop"])
        name = chance.choice(NAMES[:3] if deed == "number" else NAMES)
        given.pop(name, None)
        recipes.pop(name, None)
        if deed in ("number", "give"):
            given[name] = chance.randint(-3, 3)
        if deed == "cook":
            recipes[name] = any_recipe(chance, seen_from(chance, max(1, NAMES.index(name))), chance.randint(1, 3))
    return (given, recipes)


def any_wishes(chance):
    return [chance.choice(NAMES) for _ in range(chance.randint(0, 4))]


def any_records(chance, house):
    """Records of several builds of several houses near this one, thrown together."""
    records = {}
    for _ in range(chance.randint(1, 4)):
        told = answer(lambda: Plain(other_house(chance, house)).build(any_wishes(chance) + NAMES[-1:]))
        if not refused(told):
            for name, record in told[1].items():
                if chance.random() < 0.8:
                    records[name] = record
    return records


def lists_in(thing):
    """Every list and dict within, itself too, as often as it stands there."""
    told = [thing] if isinstance(thing, (list, dict)) else []
    parts = list(thing.values()) if isinstance(thing, dict) else thing
    if isinstance(parts, (list, tuple)):
        for part in parts:
            told.extend(lists_in(part))
    return told


def all_different(things):
    """Whether no list or dict stands in two places of these."""
    marks = [id(part) for part in lists_in(list(things))]
    return len(marks) == len(set(marks))
