"""Which lists are traces of weavings (promise 24)."""

from madeagain.errors import NoName
from madeagain.recipes import is_same
from madeagain.weavings import Weaving


def may_be_done(weaving, step):
    if not isinstance(step, tuple) or len(step) != 3 or not isinstance(step[0], str):
        return False
    return step[0] in weaving.may_go() and is_same(weaving.go(step[0]), step)


def leads_to_the_end(weaving, trace):
    for step in trace:
        if not may_be_done(weaving, step):
            return False
    return not weaving.unknown()


def trace_shows(house, wishes, trace):
    if not isinstance(trace, list):
        return False
    try:
        return leads_to_the_end(Weaving(house, wishes), trace)
    except NoName:
        return False
