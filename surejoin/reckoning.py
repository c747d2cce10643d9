"""What an expression comes to, with names' numbers and boxes' states."""

from surejoin.kinds import kind_of
from surejoin.sums import worked
from surejoin.words import LOOKS, parts_of


def looked(E, numbers, box):
    # size and held have no expression, and don't look at the number either.
    n = numbers[0] if len(numbers) > 0 else 0
    return kind_of(box[0]).seen(box[1], E[0], n)


def reckoned(E, names, boxes):
    if E[0] == "num":
        return E[1]
    if E[0] == "name":
        return names.get(E[1], 0)
    numbers = [reckoned(part, names, boxes) for part in parts_of(E)]
    if None in numbers:
        return None
    if E[0] in LOOKS:
        return looked(E, numbers, boxes[E[1]])
    return worked(E[0], numbers[0], numbers[1])
