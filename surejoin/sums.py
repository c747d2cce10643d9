"""Numbers: the whole numbers from 0 to 999999999, and what workings tell of two of them."""

COUNT_OF_NUMBERS = 1000000000


def is_whole(thing):
    # Python counts True and False among the ints; here they are no whole numbers.
    return isinstance(thing, int) and not isinstance(thing, bool)


def is_number(thing):
    return is_whole(thing) and 0 <= thing < COUNT_OF_NUMBERS


def brought(n):
    return n % COUNT_OF_NUMBERS


def worked(word, one, other):
    if word == "+":
        return brought(one + other)
    if word == "-":
        return brought(one - other)
    if word == "*":
        return brought(one * other)
    if word == "<":
        return 1 if one < other else 0
    if word == "=":
        return 1 if one == other else 0
    if other == 0:
        return None
    return one // other if word == "div" else one % other
