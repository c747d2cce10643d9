"""A box of a house: what is in it, and every put that was joined with it."""

from surejoin.kinds import kind_of


class Box:
    def __init__(self, word, state):
        self.kind = kind_of(word)
        self.state = list(state)
        # Puts that brought nothing new are kept too: a clash may be told of each. What was handed in counts as the
        # first one, by no thread and in no line.
        self.puts = [(None, 0, list(state))]

    def lets_past(self, want):
        return self.kind.passes(self.state, want[1], want[2])

    def given_for(self, want):
        return self.kind.gives(self.state, want[1], want[2])

    def first_unfit(self, state):
        for put in self.puts:
            if self.kind.joined(put[2], state) is None:
                return put
        return None

    def take_in(self, path, line, state):
        """Joins the state with what is here, or leaves it and tells the first put with which it has no join."""
        whole = self.kind.joined(self.state, state)
        if whole is None:
            return self.first_unfit(state)
        self.puts.append((path, line, list(state)))
        self.state = whole
        return None
