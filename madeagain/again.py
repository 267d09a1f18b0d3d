"""Builds from records, with the least redone (promises 10 and 11)."""

from madeagain.searches import searched


def build_again(house, records, wishes):
    search = searched(house, records, wishes)
    made = [name for name in search.settled if name in search.reckoned]
    kept = [name for name in search.settled if name not in search.reckoned]
    return (search.known, search.settled, made, kept)
