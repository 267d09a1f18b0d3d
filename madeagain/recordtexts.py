"""The one writing of each true record, and its reading back (promise 18)."""

from madeagain.behind import is_true_record
from madeagain.errors import NoRecord, NoText
from madeagain.recipes import MOST_DEPTH, recipes_within
from madeagain.texts import Reader, show_recipe


def numbers_in(r):
    todo = [r]
    numbers = []
    while todo:
        part = todo.pop()
        if part[0] == "number":
            numbers.append(part[1])
        todo.extend(recipes_within(part))
    return numbers


# Held against a bound, not written out to be counted: Python itself refuses to write very long numbers.
def is_short(number):
    return abs(number) < 10 ** 40


def show_read(read):
    return read[0] + "=" + str(read[1])


def show_record(record):
    if not is_true_record(record):
        raise NoRecord("what is no true record is not written")
    numbers = numbers_in(record[0]) + [read[1] for read in record[1]] + [record[2]]
    if not all([is_short(number) for number in numbers]):
        raise NoRecord("a number has more than forty figures")
    reads = ",".join([show_read(read) for read in record[1]])
    return show_recipe(record[0]) + " [" + reads + "] = " + str(record[2])


def take_read(reader):
    name = reader.take_name()
    reader.take_signs("=")
    return (name, reader.take_number())


def take_reads(reader):
    if reader.sees("]"):
        return []
    reads = [take_read(reader)]
    while reader.sees(","):
        reader.take_signs(",")
        reads.append(take_read(reader))
    return reads


def read_record(text):
    if not isinstance(text, str):
        raise NoText("what is no text writes no record")
    reader = Reader(text)
    r = reader.take_recipe(MOST_DEPTH)
    reader.take_signs(" [")
    reads = take_reads(reader)
    reader.take_signs("] = ")
    record = (r, reads, reader.take_number())
    reader.take_end()
    # The bounds of a recipe that the reader does not hold are asked here too.
    if not is_true_record(record):
        raise NoText("what is written is no true record")
    return record
