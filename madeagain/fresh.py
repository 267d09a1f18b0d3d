"""Builds from nothing but the house (promise 9)."""

from madeagain.searches import searched


def fresh_build(house, wishes):
    search = searched(house, {}, wishes)
    return (search.known, search.settled, list(search.settled))
