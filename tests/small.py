"""What several tests need: words by kinds, small worlds of states (closed under joins), expressions, refusals."""

from itertools import combinations, product

from surejoin.errors import JoinError

KINDS = ("most", "set", "once", "row", "map")
TOP = 999999999

WAITS = {
    "most": ("least", "many"),
    "set": ("has", "many"),
    "once": ("held", "many"),
    "row": ("item", "many"),
    "map": ("has", "item", "many"),
}
LOOKS = {
    "most": ("size", "held"),
    "set": ("size", "has"),
    "once": ("size", "held"),
    "row": ("size", "item"),
    "map": ("size", "has", "item"),
}


def small_states(word):
    if word in ("most", "once"):
        return [[]] + [[n] for n in (0, 1, 2, 7, TOP)]
    if word == "set":
        return [list(some) for size in range(5) for some in combinations((0, 1, 3, TOP), size)]
    if word == "row":
        return [list(some) for size in range(4) for some in product((0, 1), repeat=size)] + [[TOP], [TOP, 2]]
    return [
        list(zip(keys, numbers))
        for size in range(4)
        for keys in combinations((0, 2, TOP), size)
        for numbers in product((0, TOP), repeat=size)
    ]


def long_state(word, length):
    """A state of so many things, no two of them alike."""
    if word == "map":
        return [(3 * n, n) for n in range(length)]
    if word == "row":
        return [3 * (length - n) for n in range(length)]
    return [3 * n for n in range(length)]


WORKINGS = ("+", "-", "*", "div", "rem", "<", "=")
KEPT = """most set once row map job let put wait get tell if else while end begin stop ask least has many size held item
div rem""".split()


def refusal(call, *handed):
    """The class of what a call is refused with, None where it isn't refused."""
    try:
        call(*handed)
    except JoinError as fault:
        return type(fault)
    return None


def deep_texts(deep):
    """Texts of expressions just so deep: on the left, on the right, on both sides, by looks, and by turns."""
    if deep == 0:
        return ["7", "x", "size b", "held b"]
    left, right, both, looks, turns = "x", "x", "x", "x", "x"
    for level in range(deep):
        left, right, both = f"+ {left} 1", f"- 1 {right}", f"* {both} {both}"
        looks = f"item b {looks}"
        turns = f"has b {turns}" if level % 2 else f"div {turns} size b"
    return [left, right, both, looks, turns]


def plain_parts(thing):
    """The classes of all that is in a thing, itself first; what is equal may still be of another class."""
    told = [type(thing)]
    if isinstance(thing, (list, tuple)):
        for part in thing:
            told.append(plain_parts(part))
    return told


# Places of an expression in a program, which stands behind the lines of four boxes.
EXPRESSION_PLACES = [
    "job main\nlet x {}\nend",
    "job main\nput m {}\nend",
    "job main\nput r 1 {}\nend",
    "job main\nput r 1 2 3 {}\nend",
    "job main\nput p {} 1\nend",
    "job main\nwait m least {}\nend",
    "job main\nget x r {}\nend",
    "job main\ntell {}\nend",
    "job main\nif {}\nend\nend",
    "job main\nif {}\nelse\nend\nend",
    "job main\nif 1\ntell {}\nend\nend",
    "job main\nif 1\nelse\ntell {}\nend\nend",
    "job main\nif 1\nelse\nif {}\nend\nend\nend",
    "job main\nwhile {}\nend\nend",
    "job main\nwhile 1\nstop\ntell {}\nend\nend",
    "job main\nwhile 1\nwhile 1\nif 1\nelse\nwhile {}\nend\nend\nend\nend\nend",
    "job main\nend\njob f\nlet x {}\nend",
    "job f a\nend\njob main\nbegin f {} 1\nend",
    "job f a\nend\njob main\nbegin f 1 {}\nend",
    "job f a b c d\nend\njob main\nbegin f 1 2 3 4 {}\nend",
    "job main\nstop\ntell {}\nend",
    "job main\nend\nask {}",
    "job main\nend\nask 1\nask {}",
]
FOUR_BOXES = "once o\nrow r\nmap p\nmost m\n"


def around(look):
    """A look by itself and within other expressions."""
    told = [look, f"has p {look}", f"item r {look}", f"item r item r {look}", f"+ size r {look}"]
    for word in WORKINGS:
        told += [f"{word} {look} 1", f"{word} 1 {look}"]
    return told + [f"+ 1 + 1 + 1 + 1 {look}", f"+ + + + {look} 1 1 1 1"]
