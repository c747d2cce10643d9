"""The five kinds of boxes: their states, the joins of these, and what waits, gets and looks find in them."""

from surejoin.sums import is_number


def are_numbers(thing):
    return isinstance(thing, list) and all([is_number(part) for part in thing])


def is_pair(thing):
    return isinstance(thing, tuple) and len(thing) == 2 and is_number(thing[0]) and is_number(thing[1])


def are_pairs(thing):
    return isinstance(thing, list) and all([is_pair(part) for part in thing])


def are_rising(numbers):
    return all([one < other for one, other in zip(numbers, numbers[1:])])


def at_place(state, n):
    # A place below 0 would be counted from the end of the list.
    return state[n] if 0 <= n < len(state) else None


def at_key(state, key):
    for pair in state:
        if pair[0] == key:
            return pair[1]
    return None


# Each kind below tells called, is_state, joined, and, as far as words that are for it ask for them,
# contains (has) and found (least, held, item: a number, or None where there is none).
# All else follows from these, alike for all kinds, and stands here once.
class Kind:
    def under(self, one, other):
        return self.joined(one, other) == other

    def passes(self, state, word, n):
        if word == "many":
            return len(state) >= n
        if word == "has":
            return self.contains(state, n)
        number = self.found(state, n)
        if word == "least":
            return number is not None and number >= n
        return number is not None

    def gives(self, state, word, n):
        # Only what no later join can change is given; of the other words that is nothing.
        if word == "held" or word == "item":
            return self.found(state, n)
        return None

    def seen(self, state, word, n):
        if word == "size":
            return len(state)
        if word == "has":
            return 1 if self.contains(state, n) else 0
        number = self.found(state, n)
        return 0 if number is None else number


class Most(Kind):
    def called(self):
        return "most"

    def is_state(self, thing):
        return are_numbers(thing) and len(thing) <= 1

    def joined(self, one, other):
        numbers = one + other
        return [max(numbers)] if len(numbers) > 0 else []

    def found(self, state, n):
        return at_place(state, 0)


class Set(Kind):
    def called(self):
        return "set"

    def is_state(self, thing):
        return are_numbers(thing) and are_rising(thing)

    def joined(self, one, other):
        return sorted(set(one) | set(other))

    def contains(self, state, n):
        return n in state


class Once(Kind):
    def called(self):
        return "once"

    def is_state(self, thing):
        return are_numbers(thing) and len(thing) <= 1

    def joined(self, one, other):
        if one == [] or one == other:
            return list(other)
        return list(one) if other == [] else None

    def found(self, state, n):
        return at_place(state, 0)


class Row(Kind):
    def called(self):
        return "row"

    def is_state(self, thing):
        return are_numbers(thing)

    def joined(self, one, other):
        if one == other[:len(one)]:
            return list(other)
        return list(one) if other == one[:len(other)] else None

    def found(self, state, n):
        return at_place(state, n)


class Map(Kind):
    def called(self):
        return "map"

    def is_state(self, thing):
        return are_pairs(thing) and are_rising([pair[0] for pair in thing])

    def joined(self, one, other):
        numbers = dict(one)
        for pair in other:
            if numbers.setdefault(pair[0], pair[1]) != pair[1]:
                return None
        return sorted(numbers.items())

    def contains(self, state, n):
        return at_key(state, n) is not None

    def found(self, state, n):
        return at_key(state, n)


def kind_of(word):
    if word == "most":
        return Most()
    if word == "set":
        return Set()
    if word == "once":
        return Once()
    if word == "row":
        return Row()
    return Map()
