"""What is a name, a recipe and a house, told of anything (promises 4 and 5), and what is the same as another."""

LETTERS = "abcdefghijklmnopqrstuvwxyz"
MOST_LETTERS = 8
MOST_CHOICES = 9
MOST_DEPTH = 8
MOST_RECIPES = 100

# How many recipes stand in each kind, behind its first word.
WITHIN = {"number": 0, "read": 0, "plus": 2, "minus": 2, "times": 2, "most": 2, "pick": 3, "choose": 1}


def is_whole_number(thing):
    # Python counts truths among the ints; the document does not.
    return isinstance(thing, int) and not isinstance(thing, bool)


def is_name(thing):
    if not isinstance(thing, str) or not 1 <= len(thing) <= MOST_LETTERS:
        return False
    return all([sign in LETTERS for sign in thing])


def is_choice(thing):
    if not isinstance(thing, tuple) or not 1 <= len(thing) <= MOST_CHOICES:
        return False
    return all([is_name(name) for name in thing])


# Python counts 1 and True, or 1 and 1.0, as equal; here they are not. Told is made of tuples, texts and whole numbers
# alone, and the walk goes no deeper than it does, whatever the thing is.
def is_same(told, thing):
    if isinstance(told, tuple):
        if not isinstance(thing, tuple) or len(told) != len(thing):
            return False
        return all([is_same(part, other) for part, other in zip(told, thing)])
    if is_whole_number(told):
        return is_whole_number(thing) and told == thing
    return isinstance(told, str) and isinstance(thing, str) and told == thing


# The recipes within are not looked at here: a chain of them may be too long to follow to its end.
def has_shape(thing):
    if not isinstance(thing, tuple) or len(thing) == 0 or not isinstance(thing[0], str):
        return False
    kind = thing[0]
    if kind == "number":
        return len(thing) == 2 and is_whole_number(thing[1])
    if kind == "read":
        return len(thing) == 2 and is_name(thing[1])
    if kind == "choose":
        return len(thing) == 3 and is_choice(thing[2])
    return kind in WITHIN and len(thing) == 1 + WITHIN[kind]


def recipes_within(r):
    return r[1:1 + WITHIN[r[0]]]


# The walk ends at the first recipe too many or too deep, so it is short whatever is handed in.
def is_recipe(thing):
    todo = [(thing, 1)]
    seen = 0
    while todo:
        step = todo.pop()
        seen = seen + 1
        depth = step[1]
        if seen > MOST_RECIPES or depth > MOST_DEPTH or not has_shape(step[0]):
            return False
        for part in recipes_within(step[0]):
            todo.append((part, depth + 1))
    return True


def is_house(thing):
    if not isinstance(thing, tuple) or len(thing) != 2:
        return False
    given = thing[0]
    recipes = thing[1]
    if not isinstance(given, dict) or not isinstance(recipes, dict):
        return False
    for name, number in given.items():
        if not is_name(name) or not is_whole_number(number):
            return False
    for name, r in recipes.items():
        if not is_name(name) or name in given or not is_recipe(r):
            return False
    return True


def names_in(r):
    todo = [r]
    names = []
    while todo:
        part = todo.pop()
        if part[0] == "read":
            names.append(part[1])
        if part[0] == "choose":
            names.extend(part[2])
        todo.extend(recipes_within(part))
    return sorted(set(names))
