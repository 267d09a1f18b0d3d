"""What a recipe does behind reads, and which records are true (promises 16 and 17)."""

from madeagain.errors import NoRead
from madeagain.reckonings import Reckoning
from madeagain.recipes import is_name, is_recipe, is_whole_number


def behind(r, reads):
    reckoning = Reckoning(r)
    known = {}
    for read in reads:
        if reckoning.lacking(known) != read[0]:
            raise NoRead("the recipe does not look for just these names first")
        known[read[0]] = read[1]
    lacking = reckoning.lacking(known)
    if lacking is None:
        return ("worth", reckoning.found[0])
    return ("read", lacking)


def is_read(thing):
    return isinstance(thing, tuple) and len(thing) == 2 and is_name(thing[0]) and is_whole_number(thing[1])


def is_record(thing):
    if not isinstance(thing, tuple) or len(thing) != 3:
        return False
    if not is_recipe(thing[0]) or not isinstance(thing[1], list) or not is_whole_number(thing[2]):
        return False
    return all([is_read(read) for read in thing[1]])


def is_true_record(thing):
    if not is_record(thing):
        return False
    try:
        return behind(thing[0], thing[1]) == ("worth", thing[2])
    except NoRead:
        return False
