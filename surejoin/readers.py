"""A reader goes over a row of things, words or lines, one after another."""


class Reader:
    def __init__(self, things, lacking):
        self.things = list(things)
        # Told in the place of a thing where there is none any more: what asks for one need not look for the end first.
        self.lacking = lacking
        self.place = 0

    def is_over(self):
        return self.place >= len(self.things)

    def ahead(self):
        return self.lacking if self.is_over() else self.things[self.place]

    def take(self):
        thing = self.ahead()
        self.place += 1
        return thing
