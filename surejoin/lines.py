"""Single lines of a program: which there are, how each is written by words, and shown so again."""

from surejoin.errors import NoLine
from surejoin.words import check_over, looks_in, shown_expression, taken_expression, taken_name, words_of

MOST_IN_A_ROW = 4
WAIT_WORDS = ("least", "has", "many")

# By the first word of each line, what stands behind it: a name, names (none to four), a wait's word, an expression,
# perhaps one, some (one to four) or few (none to four). A line that was read is a tuple of its word, its number and
# these parts, so that a line without other lines in it is already its statement; an if's or a while's statement holds
# the lines in it behind these, and they don't count where a line alone is gone through or shown.
PARTS = {
    "most": ("name",),
    "set": ("name",),
    "once": ("name",),
    "row": ("name",),
    "map": ("name",),
    "job": ("name", "names"),
    "let": ("name", "expression"),
    "put": ("name", "some"),
    "wait": ("name", "word", "expression"),
    "get": ("name", "name", "perhaps"),
    "tell": ("expression",),
    "if": ("expression",),
    "else": (),
    "while": ("expression",),
    "end": (),
    "begin": ("name", "expression", "few"),
    "stop": (),
    "ask": ("expression",),
}


def taken_wait_word(words):
    word = words.take()
    if word not in WAIT_WORDS:
        raise NoLine(f"{word!r} is no word of a wait")
    return word


def taken_row(words, taken, least):
    things = []
    while not words.is_over():
        things.append(taken(words))
    if not least <= len(things) <= MOST_IN_A_ROW:
        raise NoLine(f"not from {least} to {MOST_IN_A_ROW} stand at the end of the line")
    return things


def taken_part(part, words):
    if part == "name":
        return taken_name(words)
    if part == "names":
        return taken_row(words, taken_name, 0)
    if part == "word":
        return taken_wait_word(words)
    if part == "some":
        return taken_row(words, taken_expression, 1)
    if part == "few":
        return taken_row(words, taken_expression, 0)
    if part == "perhaps" and words.is_over():
        return None
    return taken_expression(words)


def taken_line(words, number):
    word = words.take()
    if word not in PARTS:
        raise NoLine(f"no line begins with {word!r}")
    return (word, number) + tuple([taken_part(part, words) for part in PARTS[word]])


def read_line(text, number):
    words = words_of(text)
    try:
        line = taken_line(words, number)
        check_over(words)
    except NoLine as fault:
        raise NoLine(f"line {number}: {fault}") from None
    return line


def expressions_in(part, thing):
    if part == "some" or part == "few":
        return list(thing)
    if part == "expression" or part == "perhaps":
        return [] if thing is None else [thing]
    return []


def looks_of(line):
    """All looks of a line from left to right."""
    looks = []
    for part, thing in zip(PARTS[line[0]], line[2:]):
        for E in expressions_in(part, thing):
            looks.extend(looks_in(E))
    return looks


def shown_part(part, thing):
    if part == "name" or part == "word":
        return [thing]
    if part == "names":
        return list(thing)
    return [shown_expression(E) for E in expressions_in(part, thing)]


def shown_line(line):
    words = [line[0]]
    for part, thing in zip(PARTS[line[0]], line[2:]):
        words.extend(shown_part(part, thing))
    return " ".join(words)
