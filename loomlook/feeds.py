"""A feed: things that are drawn one by one, words of a row or rows of a text."""

from loomlook.errors import NoText


class Feed:
    def __init__(self, things):
        self.things = things
        self.place = 0

    def is_empty(self):
        return self.place == len(self.things)

    def ahead(self):
        if self.is_empty():
            raise NoText("something is lacking at an end")
        return self.things[self.place]

    def draw(self):
        thing = self.ahead()
        self.place = self.place + 1
        return thing
