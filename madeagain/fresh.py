"""Builds from nothing but the house (promise 9)."""

from madeagain.searches import NamedRecords, searched


def fresh_build(house, wishes):
    search = searched(house, NamedRecords({}), wishes)
    return (search.known, search.settled, list(search.settled))
