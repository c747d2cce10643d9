"""Small worlds of states: of each kind all states over a few numbers, closed under joins."""

from itertools import combinations, product

KINDS = ("most", "set", "once", "row", "map")
TOP = 999999999

WAITS = {
    "most": ("least", "many"),
    "set": ("has", "many"),
    "once": ("held", "many"),
    "row": ("item", "many"),
    "map": ("has", "item", "many"),
}
LOOKS = {
    "most": ("size", "held"),
    "set": ("size", "has"),
    "once": ("size", "held"),
    "row": ("size", "item"),
    "map": ("size", "has", "item"),
}


def small_states(word):
    if word in ("most", "once"):
        return [[]] + [[n] for n in (0, 1, 2, 7, TOP)]
    if word == "set":
        return [list(some) for size in range(5) for some in combinations((0, 1, 3, TOP), size)]
    if word == "row":
        return [list(some) for size in range(4) for some in product((0, 1), repeat=size)] + [[TOP], [TOP, 2]]
    return [
        list(zip(keys, numbers))
        for size in range(4)
        for keys in combinations((0, 2, TOP), size)
        for numbers in product((0, TOP), repeat=size)
    ]


def long_state(word, length):
    """A state of so many things, no two of them alike."""
    if word == "map":
        return [(3 * n, n) for n in range(length)]
    if word == "row":
        return [3 * (length - n) for n in range(length)]
    return [3 * n for n in range(length)]
