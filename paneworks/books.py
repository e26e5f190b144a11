"""Books of ways: which frame a hand found for a page of a space, the oldest way ahead."""


class Book:
    def __init__(self, slots):
        self.slots = slots
        self.kept = []

    def found(self, space, page):
        for way in self.kept:
            if way[:2] == (space, page):
                return way[2:]
        return None

    def note(self, space, page, frame, mark):
        self.strike_page(space, page)
        self.kept.append((space, page, frame, mark))
        if len(self.kept) > self.slots:
            self.kept.pop(0)

    def strike_page(self, space, page):
        return self.keep_just([way for way in self.kept if way[:2] != (space, page)])

    def strike_space(self, space):
        return self.keep_just([way for way in self.kept if way[0] != space])

    def strike_frame(self, frame):
        return self.keep_just([way for way in self.kept if way[2] != frame])

    def keep_just(self, others):
        struck = len(self.kept) - len(others)
        self.kept = others
        return struck

    def ways(self):
        return list(self.kept)
