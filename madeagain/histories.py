"""Histories: a house changed by deeds, which can be taken back, and a store for its wishes (promises 25 and 26)."""

from madeagain.cleaning import needed_of
from madeagain.errors import NoDeed, NoName, NoText
from madeagain.recipes import is_name, is_recipe, is_whole_number
from madeagain.stores import Store


def check_name(thing):
    if not is_name(thing):
        raise NoText("a name has one to eight small letters")


def check_names(thing):
    if not isinstance(thing, list):
        raise NoText("names are a list")
    for name in thing:
        check_name(name)


# A new house each time, so that those kept from before stay as they were.
def house_behind(house, deed):
    given = dict(house[0])
    recipes = dict(house[1])
    name = deed[1]
    given.pop(name, None)
    recipes.pop(name, None)
    if deed[0] == "give":
        given[name] = deed[2]
    if deed[0] == "cook":
        recipes[name] = deed[2]
    return (given, recipes)


# Houses has the house as it was at first and behind each of the deeds that stand, the last one being as it is now;
# undone has the deeds taken back, the last one on top.
class History:
    def __init__(self):
        self.houses = [({}, {})]
        self.standing = []
        self.undone = []
        self.store = Store()
        self.last_made = []
        self.last_kept = []
        self.last_records = {}

    def do(self, deed):
        self.houses.append(house_behind(self.houses[-1], deed))
        self.standing.append(deed)

    def do_new(self, deed):
        self.do(deed)
        self.undone = []

    def give(self, name, n):
        check_name(name)
        if not is_whole_number(n):
            raise NoText("only a whole number is given")
        self.do_new(("give", name, n))

    def cook(self, name, r):
        check_name(name)
        if not is_recipe(r):
            raise NoText("only a recipe is cooked")
        self.do_new(("cook", name, r))

    def drop(self, name):
        check_name(name)
        house = self.houses[-1]
        if name not in house[0] and name not in house[1]:
            raise NoName(name)
        self.do_new(("drop", name))

    def undo(self):
        if not self.standing:
            raise NoDeed("there is no deed to take back")
        self.houses.pop()
        self.undone.append(self.standing.pop())

    def redo(self):
        if not self.undone:
            raise NoDeed("there is no deed to do again")
        self.do(self.undone.pop())

    def house(self):
        return (dict(self.houses[-1][0]), dict(self.houses[-1][1]))

    def wish(self, names):
        check_names(names)
        search = self.store.search(self.houses[-1], names)
        self.last_made = search.made()
        self.last_kept = search.kept()
        self.last_records = search.settled
        return [search.known[name] for name in names]

    def made(self):
        return list(self.last_made)

    def kept(self):
        return list(self.last_kept)

    # The record by which the last wish kept a name, or which it made.
    def last_record(self, name):
        if name not in self.last_records:
            raise NoName(name)
        record = self.last_records[name]
        return (record[0], list(record[1]), record[2])

    def deeds(self):
        return list(self.standing)

    def store_records(self):
        return self.store.records()

    def clean(self, names):
        check_names(names)
        records = needed_of(self.store, [(self.houses[-1], names)])
        self.store = Store()
        self.store.take(records)
        return self.store.size()


def do_again(history, deed):
    if not isinstance(deed, tuple) or len(deed) < 2:
        raise NoText("that is no deed")
    if deed[0] == "give" and len(deed) == 3:
        history.give(deed[1], deed[2])
    elif deed[0] == "cook" and len(deed) == 3:
        history.cook(deed[1], deed[2])
    elif deed[0] == "drop" and len(deed) == 2:
        history.drop(deed[1])
    else:
        raise NoText("that is no deed")


def replayed(deeds):
    if not isinstance(deeds, list):
        raise NoText("deeds are a list")
    history = History()
    for deed in deeds:
        do_again(history, deed)
    return history
