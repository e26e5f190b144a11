"""Tables of two levels: for a page the number of its sheet."""

from paneworks.places import PAGES_OF_LEAF, lower_of, upper_of


class Table:
    def __init__(self):
        self.leaf_by_upper = {}

    def sheet_at(self, page):
        upper = upper_of(page)
        if upper not in self.leaf_by_upper:
            return None
        return self.leaf_by_upper[upper][lower_of(page)]

    def lay(self, page, sheet):
        upper = upper_of(page)
        if upper not in self.leaf_by_upper:
            self.leaf_by_upper[upper] = [None] * PAGES_OF_LEAF
        self.leaf_by_upper[upper][lower_of(page)] = sheet

    def strike(self, page):
        upper = upper_of(page)
        if upper not in self.leaf_by_upper:
            return
        leaf = self.leaf_by_upper[upper]
        leaf[lower_of(page)] = None
        # No leaf is kept without a way, so every leaf that is there is one to tell.
        if all([sheet is None for sheet in leaf]):
            self.leaf_by_upper.pop(upper)

    def pages(self):
        told = []
        for upper, entries in self.leaves():
            for lower, sheet in enumerate(entries):
                if sheet is not None:
                    told.append(PAGES_OF_LEAF * upper + lower)
        return told

    def leaves(self):
        return [(upper, list(self.leaf_by_upper[upper])) for upper in sorted(self.leaf_by_upper)]


def copy_of(table):
    twin = Table()
    for page in table.pages():
        twin.lay(page, table.sheet_at(page))
    return twin
