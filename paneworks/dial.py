"""A dial over frames: it turns, takes marks as it passes, and chooses which frame goes."""

from paneworks.errors import Full


class Dial:
    def __init__(self, many):
        self.stands_at = 0
        self.marked = [False] * many

    def pointer(self):
        return self.stands_at

    def touch(self, frame):
        self.marked[frame] = True

    def clear(self, frame):
        self.marked[frame] = False

    def marks(self):
        return list(self.marked)

    def choose(self, may):
        many = len(self.marked)
        # The first round takes the mark of every frame that may go, so the second finds one if there is any.
        for step in range(2 * many):
            frame = (self.stands_at + step) % many
            if may[frame] and not self.marked[frame]:
                self.stands_at = (frame + 1) % many
                return frame
            if may[frame]:
                self.marked[frame] = False
        raise Full("no frame may go")
