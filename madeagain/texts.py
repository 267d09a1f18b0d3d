"""The one writing of each recipe, and its reading back (promise 6)."""

from madeagain.errors import NoText
from madeagain.recipes import LETTERS, MOST_DEPTH, is_name, is_recipe

FIGURES = "0123456789"
MOST_FIGURES = 40

SIGNS = {"plus": "+", "minus": "-", "times": "*", "most": "^"}
KINDS = {"+": "plus", "-": "minus", "*": "times", "^": "most"}


def show_recipe(r):
    kind = r[0]
    if kind == "number":
        return str(r[1])
    if kind == "read":
        return r[1]
    if kind == "choose":
        return show_recipe(r[1]) + "{" + ",".join(r[2]) + "}"
    if kind == "pick":
        return "[" + show_recipe(r[1]) + " ? " + show_recipe(r[2]) + " : " + show_recipe(r[3]) + "]"
    return "(" + show_recipe(r[1]) + " " + SIGNS[kind] + " " + show_recipe(r[2]) + ")"


# A text and how far it is read. Each take_ reads one thing from there on, or refuses with NoText.
class Reader:
    def __init__(self, text):
        self.text = text
        self.place = 0

    def sees(self, signs):
        return self.text.startswith(signs, self.place)

    def take_signs(self, signs):
        if not self.sees(signs):
            raise NoText(f"{signs!r} is lacking")
        self.place = self.place + len(signs)

    def take_end(self):
        if self.place < len(self.text):
            raise NoText("there is more behind the end")

    def take_run(self, signs):
        start = self.place
        while self.place < len(self.text) and self.text[self.place] in signs:
            self.place = self.place + 1
        return self.text[start:self.place]

    def take_number(self):
        below = self.sees("-")
        if below:
            self.take_signs("-")
        figures = self.take_run(FIGURES)
        if not 1 <= len(figures) <= MOST_FIGURES:
            raise NoText("a number has one to forty figures")
        if figures[0] == "0" and (below or len(figures) > 1):
            raise NoText("a number has no 0 ahead and no - ahead of 0")
        return -int(figures) if below else int(figures)

    def take_name(self):
        name = self.take_run(LETTERS)
        if not is_name(name):
            raise NoText("a name has one to eight small letters")
        return name

    def take_choice(self):
        self.take_signs("{")
        names = [self.take_name()]
        while self.sees(","):
            self.take_signs(",")
            names.append(self.take_name())
        self.take_signs("}")
        return tuple(names)

    # The levels left bound the recursion and the row of choices, so no text leads too deep.
    def take_recipe(self, levels):
        if levels == 0:
            raise NoText("too deep")
        r = self.take_core(levels - 1)
        while self.sees("{"):
            levels = levels - 1
            if levels == 0:
                raise NoText("too deep")
            r = ("choose", r, self.take_choice())
        return r

    # A recipe without the choices behind it: with them it would have to begin with itself.
    # (At the text's end there is no sign to go by, and whichever is tried refuses.)
    def take_core(self, levels):
        if self.sees("("):
            return self.take_joined(levels)
        if self.sees("["):
            return self.take_pick(levels)
        if self.sees("-") or self.text[self.place:self.place + 1] in FIGURES:
            return ("number", self.take_number())
        return ("read", self.take_name())

    def take_joined(self, levels):
        self.take_signs("(")
        r = self.take_recipe(levels)
        self.take_signs(" ")
        sign = self.text[self.place:self.place + 1]
        if sign not in KINDS:
            raise NoText("one of + - * ^ is lacking")
        self.take_signs(sign + " ")
        s = self.take_recipe(levels)
        self.take_signs(")")
        return (KINDS[sign], r, s)

    def take_pick(self, levels):
        self.take_signs("[")
        r = self.take_recipe(levels)
        self.take_signs(" ? ")
        s = self.take_recipe(levels)
        self.take_signs(" : ")
        t = self.take_recipe(levels)
        self.take_signs("]")
        return ("pick", r, s, t)


def read_recipe(text):
    if not isinstance(text, str):
        raise NoText("what is no text writes no recipe")
    reader = Reader(text)
    r = reader.take_recipe(MOST_DEPTH)
    reader.take_end()
    # What is read may still choose from too many names, be too deep, or have too many parts.
    if not is_recipe(r):
        raise NoText("beyond the bounds of a recipe")
    return r


def read_number(text):
    reader = Reader(text)
    number = reader.take_number()
    reader.take_end()
    return number
