"""The records of a store that are needed for given cases (promises 27 and 28)."""

from madeagain.errors import NoName, NoRecord, Ring
from madeagain.stores import Store, row_of


# The records by which names are kept. (What the case makes, where it is refused for that, stays in the store.)
def records_keeping(store, house, wishes):
    try:
        search = store.search(house, wishes)
    except (NoName, Ring):
        raise NoRecord("a case is refused")
    if search.made():
        raise NoRecord("a case makes something")
    return list(search.settled.values())


def needed_of(store, cases):
    rows = {}
    for case in cases:
        for record in records_keeping(store, case[0], case[1]):
            rows[row_of(record)] = True
    return [record for record in store.records() if row_of(record) in rows]


def needed(records, cases):
    store = Store()
    for record in records:
        store.put(record)
    return needed_of(store, cases)
