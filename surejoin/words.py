"""Names, numbers and expressions: how they are written by words, and shown so again."""

from surejoin.errors import NoLine
from surejoin.readers import Reader

LETTERS = "abcdefghijklmnopqrstuvwxyz"
FIGURES = "0123456789"
LONGEST_NAME = 8
LONGEST_NUMBER = 9
DEEPEST = 5

KEPT_WORDS = (
    "most", "set", "once", "row", "map", "job", "let", "put", "wait", "get", "tell", "if", "else", "while", "end",
    "begin", "stop", "ask", "least", "has", "many", "size", "held", "item", "div", "rem",
)
# By each word, how many expressions stand behind it: of a look, behind its box's name.
WORKINGS = {"+": 2, "-": 2, "*": 2, "div": 2, "rem": 2, "<": 2, "=": 2}
LOOKS = {"size": 0, "held": 0, "has": 1, "item": 1}


def are_signs_of(text, signs):
    return all([sign in signs for sign in text])


def is_name(text):
    return 1 <= len(text) <= LONGEST_NAME and are_signs_of(text, LETTERS) and text not in KEPT_WORDS


def is_written_number(text):
    if not (1 <= len(text) <= LONGEST_NUMBER and are_signs_of(text, FIGURES)):
        return False
    return text == "0" or text[0] != "0"


def read_number(text):
    # Python's own int would also take blanks, signs, noughts ahead and figures of other scripts.
    if not is_written_number(text):
        raise NoLine(f"{text!r} is no number")
    return int(text)


def words_of(text):
    # A blank too many leaves a word without signs, which no reading takes; so does a lack of words.
    return Reader(text.split(" "), "")


def taken_name(words):
    word = words.take()
    if not is_name(word):
        raise NoLine(f"{word!r} is no name")
    return word


def taken_parts(words, count, room):
    if count > 0 and room == 0:
        raise NoLine(f"an expression is more than {DEEPEST} deep")
    return tuple([taken_within(words, room - 1) for part in range(count)])


def taken_within(words, room):
    word = words.take()
    if word in LOOKS:
        box = taken_name(words)
        return (word, box) + taken_parts(words, LOOKS[word], room)
    if word in WORKINGS:
        return (word,) + taken_parts(words, WORKINGS[word], room)
    return ("name", word) if is_name(word) else ("num", read_number(word))


def taken_expression(words):
    return taken_within(words, DEEPEST)


def check_over(words):
    if not words.is_over():
        word = words.ahead()
        raise NoLine(f"{word!r} is a word too many")


def read_expression(text):
    words = words_of(text)
    E = taken_expression(words)
    check_over(words)
    return E


def parts_of(E):
    if E[0] in LOOKS:
        return E[2:]
    return E[1:] if E[0] in WORKINGS else ()


def looks_in(E):
    """All looks of an expression from left to right, each ahead of those within it."""
    looks = [E] if E[0] in LOOKS else []
    for part in parts_of(E):
        looks.extend(looks_in(part))
    return looks


def shown_expression(E):
    if E[0] == "num" or E[0] == "name":
        return str(E[1])
    words = [E[0], E[1]] if E[0] in LOOKS else [E[0]]
    words.extend([shown_expression(part) for part in parts_of(E)])
    return " ".join(words)
