"""A shelf: so many places, each free or with a sheet's row."""

from paneworks.errors import Full


class Shelf:
    def __init__(self, many):
        self.placed = [None] * many
        self.row_by_sheet = {}

    def put_on(self, sheet, row):
        if self.is_full():
            raise Full("no place on the shelf is free")
        place = self.placed.index(None)
        self.placed[place] = sheet
        self.row_by_sheet[sheet] = list(row)
        return place

    def take_off(self, sheet):
        self.placed[self.placed.index(sheet)] = None
        return self.row_by_sheet.pop(sheet)

    def row_of_sheet(self, sheet):
        return list(self.row_by_sheet[sheet])

    def has(self, sheet):
        return sheet in self.row_by_sheet

    def is_full(self):
        return None not in self.placed

    def sheets(self):
        return list(self.placed)
