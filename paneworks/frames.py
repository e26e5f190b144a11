"""Frames: each is free or has one thing, ("own", sheet) or ("file", name, page), and its row."""

from paneworks.places import with_cells


class Frames:
    def __init__(self, many):
        self.held = [None] * many
        self.rows = [None] * many
        self.soiled = [False] * many

    def fill(self, frame, thing, row):
        self.held[frame] = thing
        self.rows[frame] = list(row)
        self.soiled[frame] = False

    def empty(self, frame):
        self.held[frame] = None
        self.rows[frame] = None
        self.soiled[frame] = False

    def thing_in(self, frame):
        return self.held[frame]

    def row_in(self, frame):
        return list(self.rows[frame])

    def put_in(self, frame, cell, numbers):
        self.rows[frame] = with_cells(self.rows[frame], cell, numbers)
        self.soiled[frame] = True

    def is_soiled(self, frame):
        return self.soiled[frame]

    def least_free(self):
        # A free frame has None in the place of a thing.
        return self.where(None)

    def where(self, thing):
        if thing not in self.held:
            return None
        return self.held.index(thing)

    def things(self):
        return list(self.held)
