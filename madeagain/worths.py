"""The worths of names, and what their recipes read on the way (promises 7 and 8)."""

from madeagain.searches import NamedRecords, searched


def worth_of(house, name):
    return searched(house, NamedRecords({}), [name]).known[name]


def reads_of(house, name):
    settled = searched(house, NamedRecords({}), [name]).settled
    return settled[name][1] if name in settled else []
