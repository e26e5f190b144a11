import inspect
import unittest

from paneworks import tables
from paneworks.tables import Table, copy_of

EDGES = [0, 15, 16, 239, 240, 255]
MOST = 10 ** 60


def entries_with(sheets):
    return [sheets.get(lower) for lower in range(16)]


class TableCase(unittest.TestCase):
    def assert_ways(self, table, ways):
        self.assertEqual([table.sheet_at(page) for page in range(256)], [ways.get(page) for page in range(256)])
        self.assertEqual(table.pages(), sorted(ways))
        wanted = []
        for upper in range(16):
            entries = [ways.get(16 * upper + lower) for lower in range(16)]
            if entries != [None] * 16:
                wanted.append((upper, entries))
        told = table.leaves()
        self.assertEqual(told, wanted)
        self.assertIs(told.__class__, list)
        for leaf in told:
            self.assertIs(leaf.__class__, tuple)
            self.assertIs(leaf[1].__class__, list)


class InterfaceTest(unittest.TestCase):
    def test_names_and_arguments(self):
        wanted = {"sheet_at": ["page"], "lay": ["page", "sheet"], "strike": ["page"], "pages": [], "leaves": []}
        table = Table()
        for name, arguments in wanted.items():
            with self.subTest(name=name):
                self.assertEqual(list(inspect.signature(getattr(table, name)).parameters), arguments)
        self.assertEqual(list(inspect.signature(Table).parameters), [])
        self.assertEqual(list(inspect.signature(tables.copy_of).parameters), ["table"])


class TableTest(TableCase):
    def test_a_new_table_has_no_way(self):
        self.assert_ways(Table(), {})

    def test_a_way_at_each_page(self):
        table = Table()
        ways = {}
        for step in range(256):
            page = step * 77 % 256
            table.lay(page, 1000 - page)
            ways[page] = 1000 - page
            if page in EDGES:
                self.assert_ways(table, ways)
        self.assert_ways(table, ways)
        for step in range(256):
            page = step * 91 % 256
            table.strike(page)
            ways.pop(page)
            if page in EDGES:
                self.assert_ways(table, ways)
        self.assert_ways(table, {})

    def test_ways_at_the_ends(self):
        for page in EDGES:
            for sheet in [1, 2, MOST - 1, MOST]:
                with self.subTest(page=page, sheet=sheet):
                    table = Table()
                    table.lay(page, sheet)
                    self.assert_ways(table, {page: sheet})
                    table.strike(page)
                    self.assert_ways(table, {})

    def test_leaves_of_the_ends(self):
        table = Table()
        for page in reversed(EDGES):
            table.lay(page, page + 1)
        self.assertEqual(table.pages(), EDGES)
        self.assertEqual(table.leaves(), [
            (0, entries_with({0: 1, 15: 16})),
            (1, entries_with({0: 17})),
            (14, entries_with({15: 240})),
            (15, entries_with({0: 241, 15: 256})),
        ])

    def test_a_new_way_takes_the_place_of_the_old_one(self):
        table = Table()
        ways = {}
        for page in EDGES:
            for sheet in [5, MOST, 1, 1]:
                table.lay(page, sheet)
                ways[page] = sheet
                self.assert_ways(table, ways)

    def test_one_sheet_at_two_pages(self):
        table = Table()
        table.lay(15, 3)
        table.lay(16, 3)
        self.assert_ways(table, {15: 3, 16: 3})
        table.strike(15)
        self.assert_ways(table, {16: 3})

    def test_a_page_without_way_stays_so(self):
        table = Table()
        for page in EDGES:
            table.strike(page)
            self.assert_ways(table, {})
        table.lay(16, 9)
        for page in [0, 15, 17, 31, 32, 239, 240, 255]:
            table.strike(page)
            self.assert_ways(table, {16: 9})
        table.strike(16)
        table.strike(16)
        self.assert_ways(table, {})

    def test_a_leaf_whose_last_way_was_struck_is_not_told(self):
        table = Table()
        for page in [16, 31, 240]:
            table.lay(page, 4)
        table.strike(31)
        self.assertEqual([upper for upper, entries in table.leaves()], [1, 15])
        table.strike(16)
        self.assertEqual(table.leaves(), [(15, entries_with({0: 4}))])
        table.lay(31, 6)
        self.assertEqual(table.leaves(), [(1, entries_with({15: 6})), (15, entries_with({0: 4}))])

    def test_what_is_done_to_told_lists_changes_nothing(self):
        table = Table()
        ways = {0: 1, 15: 2, 240: 3}
        for page, sheet in ways.items():
            table.lay(page, sheet)
        pages = table.pages()
        pages.append(7)
        pages[0] = 9
        leaves = table.leaves()
        leaves[0][1][0] = 99
        leaves[0][1][3] = 98
        leaves[1][1].clear()
        leaves.pop()
        self.assert_ways(table, ways)
        empty = Table()
        empty.pages().append(1)
        empty.leaves().append((0, [1] * 16))
        self.assert_ways(empty, {})

    def test_what_is_done_later_changes_no_told_list(self):
        table = Table()
        table.lay(0, 1)
        table.lay(255, 2)
        pages = table.pages()
        leaves = table.leaves()
        table.lay(0, 5)
        table.lay(1, 6)
        table.lay(100, 7)
        table.strike(255)
        self.assertEqual(pages, [0, 255])
        self.assertEqual(leaves, [(0, entries_with({0: 1})), (15, entries_with({15: 2}))])

    def test_asking_lays_no_way(self):
        table = Table()
        for page in range(256):
            self.assertIsNone(table.sheet_at(page))
        self.assert_ways(table, {})

    def test_tables_made_apart_have_nothing_in_common(self):
        one = Table()
        other = Table()
        one.lay(15, 1)
        self.assert_ways(other, {})
        other.lay(15, 2)
        other.lay(16, 3)
        self.assert_ways(one, {15: 1})
        one.strike(15)
        self.assert_ways(one, {})
        self.assert_ways(other, {15: 2, 16: 3})


class CopyTest(TableCase):
    def table_with(self, ways):
        table = Table()
        for page, sheet in ways.items():
            table.lay(page, sheet)
        return table

    def test_a_copy_has_the_same_ways(self):
        for ways in [{}, {0: 1}, {page: MOST - page for page in EDGES}, {page: page + 1 for page in range(256)}]:
            table = self.table_with(ways)
            twin = copy_of(table)
            self.assertIsInstance(twin, Table)
            self.assertIsNot(twin, table)
            self.assert_ways(twin, ways)
            self.assert_ways(copy_of(twin), ways)
            self.assert_ways(table, ways)

    def test_what_is_done_to_one_changes_no_other(self):
        ways = {0: 1, 15: 2, 16: 3, 240: 4}
        for changed in range(3):
            first = self.table_with(ways)
            second = copy_of(first)
            third = copy_of(second)
            held = [first, second, third]
            held[changed].lay(0, 9)
            held[changed].lay(1, 8)
            held[changed].lay(100, 7)
            held[changed].strike(15)
            held[changed].strike(16)
            for place, table in enumerate(held):
                with self.subTest(changed=changed, table=place):
                    wanted = {0: 9, 1: 8, 100: 7, 240: 4} if place == changed else ways
                    self.assert_ways(table, wanted)

    def test_a_copy_of_an_empty_table_is_apart_too(self):
        table = Table()
        twin = copy_of(table)
        twin.lay(3, 1)
        self.assert_ways(table, {})
        table.lay(4, 2)
        self.assert_ways(twin, {3: 1})

    def test_a_copy_taken_behind_a_strike(self):
        table = self.table_with({16: 1, 40: 2})
        table.strike(16)
        self.assert_ways(copy_of(table), {40: 2})


if __name__ == "__main__":
    unittest.main()
