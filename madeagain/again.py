"""Builds from records, with the least redone (promises 10 and 11)."""

from madeagain.searches import NamedRecords, searched


def build_again(house, records, wishes):
    search = searched(house, NamedRecords(records), wishes)
    return (search.known, search.settled, search.made(), search.kept())
