"""The desk: a history told by rows of words (promises 29 and 30)."""

from madeagain.errors import NoRecord, NoRow, NoText
from madeagain.histories import History
from madeagain.recipes import is_name
from madeagain.recordtexts import show_record
from madeagain.texts import read_number, read_recipe

# How many words a row has, by its first one. (A wish has two or more.)
COUNTS = {"give": 3, "cook": 3, "drop": 2, "undo": 1, "redo": 1, "made": 1, "kept": 1, "why": 2, "deeds": 1,
          "records": 1, "clean": 1}


def words_of(row):
    if not isinstance(row, str):
        raise NoRow("a row is a text")
    # A recipe has blanks of its own: it is all that is left.
    words = row.split(" ", 2) if row.startswith("cook ") else row.split(" ")
    if words[0] == "wish" and len(words) > 1:
        return words
    if COUNTS.get(words[0]) != len(words):
        raise NoRow("there is no such row")
    return words


def name_of(word):
    if not is_name(word):
        raise NoRow("a word ought to be a name")
    return word


def number_of(word):
    try:
        return read_number(word)
    except NoText:
        raise NoRow("a word ought to be a number")


def told_names(names):
    return " ".join(names) if names else "none"


class Desk:
    def __init__(self):
        self.history = History()
        # The names of the last wish that was not refused.
        self.wished = None

    def say(self, row):
        words = words_of(row)
        first = words[0]
        if first == "wish":
            return self.say_wish([name_of(word) for word in words[1:]])
        if first == "made":
            return told_names(self.history.made())
        if first == "kept":
            return told_names(self.history.kept())
        if first == "why":
            return show_record(self.history.last_record(name_of(words[1])))
        if first == "deeds":
            return str(len(self.history.deeds()))
        if first == "records":
            return str(len(self.history.store_records()))
        if first == "clean":
            return self.say_clean()
        self.do(words)
        return "ok"

    def do(self, words):
        first = words[0]
        if first == "undo":
            self.history.undo()
        elif first == "redo":
            self.history.redo()
        elif first == "give":
            self.history.give(name_of(words[1]), number_of(words[2]))
        elif first == "cook":
            self.history.cook(name_of(words[1]), read_recipe(words[2]))
        else:
            self.history.drop(name_of(words[1]))

    def say_wish(self, names):
        worths = self.history.wish(names)
        self.wished = names
        return " ".join([str(worth) for worth in worths])

    def say_clean(self):
        if self.wished is None:
            raise NoRecord("there was no wish yet")
        return str(self.history.clean(self.wished))
