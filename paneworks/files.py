"""Files by name: each a list of rows, one for each of its pages."""

from paneworks.errors import NoFile, NoPage, Taken


class Files:
    def __init__(self):
        self.rows_by_name = {}

    def make(self, name, rows):
        if name in self.rows_by_name:
            raise Taken("a file has this name already")
        self.rows_by_name[name] = [list(row) for row in rows]

    def size_of(self, name):
        self.ask_name(name)
        return len(self.rows_by_name[name])

    def row_at(self, name, page):
        self.ask_page(name, page)
        return list(self.rows_by_name[name][page])

    def store_row(self, name, page, row):
        self.ask_page(name, page)
        self.rows_by_name[name][page] = list(row)

    def drop(self, name):
        self.ask_name(name)
        self.rows_by_name.pop(name)

    def names(self):
        return sorted(self.rows_by_name)

    def ask_name(self, name):
        if name not in self.rows_by_name:
            raise NoFile("no file has this name")

    def ask_page(self, name, page):
        # The size is asked for first: a name that no file has is refused whatever the page.
        size = self.size_of(name)
        if page < 0 or page >= size:
            raise NoPage("the file does not have this page")
