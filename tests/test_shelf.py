import inspect
import unittest

from paneworks.errors import Full
from paneworks.places import is_whole
from paneworks.shelf import Shelf

MOST = 10 ** 60 - 1
LEAST = 1 - 10 ** 60
ARGUMENTS = {
    "put_on": ["sheet", "row"],
    "take_off": ["sheet"],
    "row_of_sheet": ["sheet"],
    "has": ["sheet"],
    "is_full": [],
    "sheets": [],
}


def row_for(sheet):
    return [sheet, -sheet, MOST - sheet, LEAST]


class ShelfCase(unittest.TestCase):
    def assert_shelf(self, shelf, sheets):
        told = shelf.sheets()
        self.assertEqual(told, sheets)
        self.assertIs(told.__class__, list)
        self.assertIs(shelf.is_full(), None not in sheets)
        for sheet in sheets:
            if sheet is not None:
                self.assertIs(shelf.has(sheet), True)
                row = shelf.row_of_sheet(sheet)
                self.assertEqual(row, row_for(sheet))
                self.assertIs(row.__class__, list)
        for sheet in [1, 2, 3, 10, 11, 512, 513, MOST]:
            self.assertIs(shelf.has(sheet), sheet in sheets)
        self.assertEqual(shelf.sheets(), sheets)

    def put_on(self, shelf, sheet, place):
        told = shelf.put_on(sheet, row_for(sheet))
        self.assertEqual(told, place)
        self.assertIs(is_whole(told), True)

    def take_off(self, shelf, sheet):
        row = shelf.take_off(sheet)
        self.assertEqual(row, row_for(sheet))
        self.assertIs(row.__class__, list)

    def assert_full(self, shelf, sheet):
        before = shelf.sheets()
        row = row_for(sheet)
        with self.assertRaises(Full) as caught:
            shelf.put_on(sheet, row)
        self.assertIs(caught.exception.__class__, Full)
        self.assertEqual(row, row_for(sheet))
        self.assertIs(shelf.has(sheet), False)
        self.assert_shelf(shelf, before)


class InterfaceTest(unittest.TestCase):
    def test_names_and_arguments(self):
        self.assertEqual(list(inspect.signature(Shelf).parameters), ["many"])
        for name, arguments in ARGUMENTS.items():
            with self.subTest(name=name):
                self.assertEqual(list(inspect.signature(getattr(Shelf(1), name)).parameters), arguments)


class ShelfTest(ShelfCase):
    def test_at_first(self):
        for many in [0, 1, 2, 512]:
            self.assert_shelf(Shelf(many), [None] * many)

    def test_a_shelf_without_places_is_full(self):
        shelf = Shelf(0)
        self.assertIs(shelf.is_full(), True)
        self.assert_full(shelf, 1)
        self.assert_shelf(shelf, [])

    def test_filled_place_by_place(self):
        for many in [1, 2, 512]:
            shelf = Shelf(many)
            for place in range(many):
                self.assertIs(shelf.is_full(), False)
                self.put_on(shelf, many + 1 - place, place)
            sheets = [many + 1 - place for place in range(many)]
            self.assert_shelf(shelf, sheets)
            self.assert_full(shelf, many + 2)
            for place in range(many):
                self.take_off(shelf, sheets[place])
                sheets[place] = None
                self.assertIs(shelf.is_full(), False)
            self.assert_shelf(shelf, [None] * many)

    def test_each_place_of_a_full_shelf_freed_in_turn(self):
        many = 512
        shelf = Shelf(many)
        sheets = list(range(1, many + 1))
        for sheet in sheets:
            shelf.put_on(sheet, row_for(sheet))
        for step in range(64):
            place = step * 199 % many
            self.take_off(shelf, sheets[place])
            self.assertIs(shelf.has(sheets[place]), False)
            sheets[place] = 1000 + step
            self.put_on(shelf, 1000 + step, place)
        self.assert_shelf(shelf, sheets)

    def test_the_least_free_place_with_gaps(self):
        shelf = Shelf(4)
        for sheet in [10, 11, 12, 13]:
            shelf.put_on(sheet, row_for(sheet))
        self.take_off(shelf, 13)
        self.assert_shelf(shelf, [10, 11, 12, None])
        self.take_off(shelf, 11)
        self.assert_shelf(shelf, [10, None, 12, None])
        self.put_on(shelf, MOST, 1)
        self.assert_shelf(shelf, [10, MOST, 12, None])
        self.take_off(shelf, 10)
        self.put_on(shelf, 11, 0)
        self.put_on(shelf, 10, 3)
        self.assert_shelf(shelf, [11, MOST, 12, 10])
        self.assert_full(shelf, 1)

    def test_a_sheet_comes_again_with_another_row(self):
        shelf = Shelf(2)
        shelf.put_on(1, [1, 1, 1, 1])
        self.assertEqual(shelf.take_off(1), [1, 1, 1, 1])
        shelf.put_on(2, [2, 2, 2, 2])
        shelf.put_on(1, [3, 3, 3, 3])
        self.assertEqual(shelf.row_of_sheet(1), [3, 3, 3, 3])
        self.assertEqual(shelf.sheets(), [2, 1])

    def test_telling_takes_nothing_off(self):
        shelf = Shelf(2)
        self.put_on(shelf, 3, 0)
        for step in range(3):
            self.assertEqual(shelf.row_of_sheet(3), row_for(3))
        self.assert_shelf(shelf, [3, None])

    def test_rows_alike_of_two_sheets_stay_apart(self):
        shelf = Shelf(2)
        row = [1, 2, 3, 4]
        shelf.put_on(1, row)
        shelf.put_on(2, row)
        shelf.take_off(1)[0] = 9
        self.assertEqual(shelf.row_of_sheet(2), [1, 2, 3, 4])


class ApartTest(ShelfCase):
    def test_what_is_handed_in_is_not_kept(self):
        shelf = Shelf(1)
        row = row_for(5)
        shelf.put_on(5, row)
        self.assertEqual(row, row_for(5))
        row[0] = 90
        row.append(91)
        self.assert_shelf(shelf, [5])

    def test_told_lists_are_the_askers_own(self):
        shelf = Shelf(2)
        shelf.put_on(5, row_for(5))
        row = shelf.row_of_sheet(5)
        row[0] = 90
        row.append(91)
        sheets = shelf.sheets()
        sheets[1] = 6
        sheets.append(None)
        self.assert_shelf(shelf, [5, None])
        row = shelf.row_of_sheet(5)
        sheets = shelf.sheets()
        taken = shelf.take_off(5)
        taken[0] = 92
        shelf.put_on(6, row_for(6))
        shelf.put_on(5, [0, 0, 0, 0])
        self.assertEqual(row, row_for(5))
        self.assertEqual(sheets, [5, None])
        self.assertEqual(taken, [92] + row_for(5)[1:])
        self.assertEqual(shelf.row_of_sheet(5), [0, 0, 0, 0])

    def test_shelves_made_apart_have_nothing_in_common(self):
        one = Shelf(2)
        other = Shelf(2)
        self.put_on(one, 1, 0)
        self.assert_shelf(other, [None, None])
        self.put_on(other, 2, 0)
        self.put_on(other, 1, 1)
        self.take_off(one, 1)
        self.assert_shelf(one, [None, None])
        self.assert_shelf(other, [2, 1])


if __name__ == "__main__":
    unittest.main()
