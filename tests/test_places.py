import copy
import inspect
import unittest

from paneworks import places
from paneworks.errors import NoNumber
from paneworks.places import (blank, cell_of, is_whole, lower_of, number, page_of, parts, row_of, upper_of,
                              with_cells)

MOST = 10 ** 60 - 1
LEAST = 1 - 10 ** 60
SIXTY_FIGURES = int("9" * 60)
NO_NUMBERS = [True, False, None, "", "1", "one", [], [1], (), (1,), {}]
ARGUMENTS = {
    "is_whole": ["thing"],
    "number": ["thing", "low", "high"],
    "page_of": ["place"],
    "cell_of": ["place"],
    "upper_of": ["page"],
    "lower_of": ["page"],
    "row_of": ["thing"],
    "blank": [],
    "with_cells": ["row", "cell", "numbers"],
    "parts": ["place", "many"],
}


class InterfaceTest(unittest.TestCase):
    def test_names_and_arguments(self):
        for name, arguments in ARGUMENTS.items():
            with self.subTest(name=name):
                self.assertEqual(list(inspect.signature(getattr(places, name)).parameters), arguments)


class IsWholeTest(unittest.TestCase):
    def test_whole_numbers_of_any_size_and_sign(self):
        for thing in [0, 1, -1, 2, 255, -1023, MOST, LEAST, 10 ** 60, -10 ** 60, 10 ** 5000, -10 ** 5000]:
            self.assertIs(is_whole(thing), True)

    def test_other_plain_things(self):
        for thing in NO_NUMBERS:
            with self.subTest(thing=thing):
                self.assertIs(is_whole(thing), False)


class NumberTest(unittest.TestCase):
    def assert_refused(self, thing, low, high):
        with self.assertRaises(NoNumber) as caught:
            number(thing, low, high)
        self.assertIs(caught.exception.__class__, NoNumber)

    def test_within_the_bounds(self):
        for low, high in [(0, 3), (-3, 3), (-9, -5), (1, 256), (LEAST, MOST), (-SIXTY_FIGURES, SIXTY_FIGURES),
                          (-SIXTY_FIGURES, 4 - SIXTY_FIGURES), (SIXTY_FIGURES - 4, SIXTY_FIGURES)]:
            for thing in [low, low + 1, (low + high) // 2, high - 1, high]:
                with self.subTest(thing=thing, low=low, high=high):
                    told = number(thing, low, high)
                    self.assertEqual(told, thing)
                    self.assertIs(is_whole(told), True)

    def test_beyond_the_bounds(self):
        for low, high in [(0, 3), (-3, 3), (-9, -5), (1, 256), (-SIXTY_FIGURES, SIXTY_FIGURES),
                          (-SIXTY_FIGURES, 4 - SIXTY_FIGURES), (SIXTY_FIGURES - 4, SIXTY_FIGURES)]:
            for thing in [low - 1, low - 2, high + 1, high + 2, low - 10 ** 61, high + 10 ** 61]:
                with self.subTest(thing=thing, low=low, high=high):
                    self.assert_refused(thing, low, high)

    def test_both_bounds_the_same(self):
        for bound in [0, 1, -1, 7, -7, SIXTY_FIGURES, -SIXTY_FIGURES]:
            with self.subTest(bound=bound):
                self.assertEqual(number(bound, bound, bound), bound)
                self.assert_refused(bound - 1, bound, bound)
                self.assert_refused(bound + 1, bound, bound)

    def test_other_plain_things(self):
        for thing in NO_NUMBERS:
            for low, high in [(0, 1), (1, 1), (0, 0), (-10, 10), (-SIXTY_FIGURES, SIXTY_FIGURES)]:
                with self.subTest(thing=thing, low=low, high=high):
                    self.assert_refused(thing, low, high)

    def test_numbers_too_long_to_be_shown(self):
        self.assert_refused(10 ** 5000, 0, 1)
        self.assert_refused(-10 ** 5000, 0, 1)
        self.assert_refused(0, 10 ** 5000, 10 ** 5000 + 1)
        self.assert_refused([10 ** 5000], 0, 1)
        self.assertEqual(number(10 ** 5000, 0, 10 ** 5000), 10 ** 5000)


class PlaceTest(unittest.TestCase):
    def test_every_place(self):
        places_in_order = [(page, cell) for page in range(256) for cell in range(4)]
        self.assertEqual([(page_of(place), cell_of(place)) for place in range(1024)], places_in_order)
        for place in range(1024):
            self.assertEqual(4 * page_of(place) + cell_of(place), place)
            self.assertIs(is_whole(page_of(place)), True)
            self.assertIs(is_whole(cell_of(place)), True)

    def test_every_page(self):
        pages_in_order = [(upper, lower) for upper in range(16) for lower in range(16)]
        self.assertEqual([(upper_of(page), lower_of(page)) for page in range(256)], pages_in_order)
        for page in range(256):
            self.assertEqual(16 * upper_of(page) + lower_of(page), page)
            self.assertIs(is_whole(upper_of(page)), True)
            self.assertIs(is_whole(lower_of(page)), True)


class RowTest(unittest.TestCase):
    def assert_refused(self, thing):
        before = copy.deepcopy(thing)
        with self.assertRaises(NoNumber) as caught:
            row_of(thing)
        self.assertIs(caught.exception.__class__, NoNumber)
        self.assertEqual(thing, before)

    def test_rows_are_told_anew(self):
        for row in [[0, 0, 0, 0], [1, 2, 3, 4], [-1, 5, -1, 5], [MOST, LEAST, MOST, LEAST]]:
            with self.subTest(row=row):
                before = list(row)
                told = row_of(row)
                self.assertEqual(told, before)
                self.assertIs(told.__class__, list)
                self.assertIsNot(told, row)
                told[0] = 77
                self.assertEqual(row, before)
                again = row_of(row)
                row[3] = 78
                self.assertEqual(again, before)

    def test_the_ends_of_a_cell(self):
        for cell in range(4):
            for thing in [MOST, LEAST, MOST - 1, LEAST + 1, 0]:
                row = [1, 2, 3, 4]
                row[cell] = thing
                self.assertEqual(row_of(row), row)
            for thing in [10 ** 60, -10 ** 60, 10 ** 60 + 1, -10 ** 60 - 1, 10 ** 5000, -10 ** 5000]:
                row = [1, 2, 3, 4]
                row[cell] = thing
                self.assert_refused(row)

    def test_other_counts_of_numbers(self):
        for many in [0, 1, 2, 3, 5, 6, 8, 64]:
            with self.subTest(many=many):
                self.assert_refused([1] * many)

    def test_other_things_in_a_cell(self):
        for cell in range(4):
            for thing in NO_NUMBERS:
                with self.subTest(cell=cell, thing=thing):
                    row = [1, 2, 3, 4]
                    row[cell] = thing
                    self.assert_refused(row)

    def test_what_is_no_list(self):
        for thing in [True, False, None, 0, 4, "", "1234", (), (1, 2, 3, 4), {}, {0: 1, 1: 2, 2: 3, 3: 4},
                      10 ** 5000]:
            self.assert_refused(thing)

    def test_blank_is_new_each_time(self):
        first = blank()
        second = blank()
        self.assertEqual(first, [0, 0, 0, 0])
        self.assertIs(first.__class__, list)
        first[0] = 5
        first.append(6)
        self.assertEqual(second, [0, 0, 0, 0])
        self.assertEqual(blank(), [0, 0, 0, 0])

    def test_with_cells(self):
        for cell in range(4):
            for many in range(5 - cell):
                with self.subTest(cell=cell, many=many):
                    row = [10, 20, 30, 40]
                    numbers = [MOST, LEAST, 0, -7][:many]
                    laid = list(numbers)
                    wanted = [10, 20, 30, 40]
                    for step in range(many):
                        wanted[cell + step] = laid[step]
                    told = with_cells(row, cell, numbers)
                    self.assertEqual(told, wanted)
                    self.assertIs(told.__class__, list)
                    self.assertEqual(row, [10, 20, 30, 40])
                    self.assertEqual(numbers, laid)
                    told.append(1)
                    told[0] = 2
                    self.assertEqual(row, [10, 20, 30, 40])
                    self.assertEqual(numbers, laid)

    def test_with_cells_keeps_nothing(self):
        row = [1, 2, 3, 4]
        numbers = [5, 6, 7, 8]
        told = [with_cells(row, 0, numbers), with_cells(row, 2, []), with_cells(row, 1, numbers[:2])]
        row[0] = 90
        row[3] = 91
        numbers[0] = 92
        self.assertEqual(told, [[5, 6, 7, 8], [1, 2, 3, 4], [1, 5, 6, 4]])


class PartsTest(unittest.TestCase):
    def assert_parts(self, place, many):
        told = parts(place, many)
        self.assertIs(told.__class__, list)
        touched = []
        for part in told:
            self.assertIs(part.__class__, tuple)
            self.assertEqual(len(part), 3)
            for one in part:
                self.assertIs(is_whole(one), True)
            page, cell, count = part
            self.assertGreaterEqual(count, 1)
            self.assertLessEqual(cell + count, 4)
            touched.extend(range(4 * page + cell, 4 * page + cell + count))
        self.assertEqual(touched, list(range(place, place + many)))
        pages = [part[0] for part in told]
        self.assertEqual(pages, sorted({here // 4 for here in touched}))

    def test_told_parts(self):
        self.assertEqual(parts(0, 1), [(0, 0, 1)])
        self.assertEqual(parts(0, 4), [(0, 0, 4)])
        self.assertEqual(parts(0, 5), [(0, 0, 4), (1, 0, 1)])
        self.assertEqual(parts(3, 2), [(0, 3, 1), (1, 0, 1)])
        self.assertEqual(parts(6, 9), [(1, 2, 2), (2, 0, 4), (3, 0, 3)])
        self.assertEqual(parts(1023, 1), [(255, 3, 1)])
        self.assertEqual(parts(1018, 6), [(254, 2, 2), (255, 0, 4)])

    def test_no_cells_have_no_parts(self):
        for place in range(1024):
            self.assertEqual(parts(place, 0), [])

    def test_small_counts_from_every_place(self):
        for place in range(1024):
            for many in range(1, min(14, 1025 - place)):
                self.assert_parts(place, many)

    def test_great_counts(self):
        for place in [0, 1, 2, 3, 4, 511, 959, 960, 1000, 1020, 1021, 1022, 1023]:
            for many in [15, 16, 17, 63, 64, 65, 255, 1023 - place, 1024 - place]:
                if place + many <= 1024:
                    self.assert_parts(place, many)

    def test_parts_are_the_askers_own(self):
        told = parts(0, 8)
        told.append((9, 9, 9))
        self.assertEqual(parts(0, 8), [(0, 0, 4), (1, 0, 4)])
        nothing = parts(5, 0)
        nothing.append(1)
        self.assertEqual(parts(5, 0), [])


if __name__ == "__main__":
    unittest.main()
