import inspect
import unittest

from paneworks.errors import NoFile, NoPage, Taken
from paneworks.files import Files
from paneworks.places import is_whole

MOST = 10 ** 60 - 1
LEAST = 1 - 10 ** 60
ARGUMENTS = {
    "make": ["name", "rows"],
    "size_of": ["name"],
    "row_at": ["name", "page"],
    "store_row": ["name", "page", "row"],
    "drop": ["name"],
    "names": [],
}
NAMES = ["a", "ab", "abc", "abcdefgh", "abcdefgi", "b", "ba", "z", "zzzzzzzz"]


def rows_of(many, seed=0):
    return [[page + seed, -page, MOST - page, LEAST + page] for page in range(many)]


class FilesCase(unittest.TestCase):
    def assert_files(self, files, wanted):
        told = files.names()
        self.assertEqual(told, sorted(wanted))
        self.assertIs(told.__class__, list)
        for name, rows in wanted.items():
            self.assertEqual(files.size_of(name), len(rows))
            self.assertIs(is_whole(files.size_of(name)), True)
            for page, row in enumerate(rows):
                self.assertEqual(files.row_at(name, page), row)
                self.assertIs(files.row_at(name, page).__class__, list)

    def assert_refused(self, refusal, deed, *handed):
        with self.assertRaises(refusal) as caught:
            deed(*handed)
        self.assertIs(caught.exception.__class__, refusal)


class InterfaceTest(unittest.TestCase):
    def test_names_and_arguments(self):
        self.assertEqual(list(inspect.signature(Files).parameters), [])
        for name, arguments in ARGUMENTS.items():
            with self.subTest(name=name):
                self.assertEqual(list(inspect.signature(getattr(Files(), name)).parameters), arguments)


class FilesTest(FilesCase):
    def test_no_files_at_first(self):
        self.assert_files(Files(), {})

    def test_files_of_any_size(self):
        for many in [1, 2, 63, 64]:
            files = Files()
            files.make("a", rows_of(many))
            self.assert_files(files, {"a": rows_of(many)})

    def test_names_are_sorted(self):
        files = Files()
        wanted = {}
        for step in range(len(NAMES)):
            name = NAMES[step * 5 % len(NAMES)]
            wanted[name] = rows_of(step + 1, seed=step)
            files.make(name, wanted[name])
            self.assert_files(files, wanted)
        self.assertEqual(files.names(), NAMES)

    def test_a_row_is_stored(self):
        for many in [1, 64]:
            for page in sorted({0, many // 2, many - 1}):
                files = Files()
                files.make("a", rows_of(many))
                files.make("b", rows_of(many))
                files.store_row("a", page, [9, LEAST, MOST, 0])
                wanted = rows_of(many)
                wanted[page] = [9, LEAST, MOST, 0]
                self.assert_files(files, {"a": wanted, "b": rows_of(many)})
                files.store_row("a", page, [1, 1, 1, 1])
                wanted[page] = [1, 1, 1, 1]
                self.assert_files(files, {"a": wanted, "b": rows_of(many)})

    def test_a_file_is_dropped(self):
        files = Files()
        files.make("a", rows_of(2))
        files.make("ab", rows_of(3))
        files.drop("a")
        self.assert_files(files, {"ab": rows_of(3)})
        self.assert_refused(NoFile, files.size_of, "a")
        files.make("a", rows_of(1, seed=50))
        self.assert_files(files, {"a": rows_of(1, seed=50), "ab": rows_of(3)})
        self.assert_refused(NoPage, files.row_at, "a", 1)
        files.drop("a")
        files.drop("ab")
        self.assert_files(files, {})


class RefusalTest(FilesCase):
    def test_a_name_in_use(self):
        files = Files()
        files.make("a", rows_of(2))
        self.assert_refused(Taken, files.make, "a", rows_of(64, seed=7))
        self.assert_refused(Taken, files.make, "a", rows_of(2))
        self.assert_files(files, {"a": rows_of(2)})

    def test_a_name_that_no_file_has(self):
        files = Files()
        for step in range(2):
            for name in ["b", "aa", "abcdefgh"]:
                self.assert_refused(NoFile, files.size_of, name)
                self.assert_refused(NoFile, files.drop, name)
                for page in [0, 1, 63, 64, MOST]:
                    self.assert_refused(NoFile, files.row_at, name, page)
                    self.assert_refused(NoFile, files.store_row, name, page, [1, 2, 3, 4])
            if step == 0:
                self.assert_files(files, {})
                files.make("a", rows_of(1))
        self.assert_files(files, {"a": rows_of(1)})

    def test_a_page_that_the_file_does_not_have(self):
        for many in [1, 2, 64]:
            files = Files()
            files.make("a", rows_of(many))
            for page in [many, many + 1, 100, MOST]:
                self.assert_refused(NoPage, files.row_at, "a", page)
                self.assert_refused(NoPage, files.store_row, "a", page, [1, 2, 3, 4])
            self.assert_files(files, {"a": rows_of(many)})

    def test_a_page_below_nought(self):
        files = Files()
        files.make("a", rows_of(2))
        for page in [-1, -2, -3]:
            self.assert_refused(NoPage, files.row_at, "a", page)
            self.assert_refused(NoPage, files.store_row, "a", page, [1, 2, 3, 4])
            self.assert_refused(NoFile, files.row_at, "b", page)
        self.assert_files(files, {"a": rows_of(2)})

    def test_the_size_of_another_file_does_not_count(self):
        files = Files()
        files.make("a", rows_of(1))
        files.make("b", rows_of(3))
        self.assert_refused(NoPage, files.row_at, "a", 2)
        self.assertEqual(files.row_at("b", 2), rows_of(3)[2])


class ApartTest(FilesCase):
    def test_what_is_handed_in_is_not_kept(self):
        files = Files()
        rows = rows_of(2)
        files.make("a", rows)
        self.assertEqual(rows, rows_of(2))
        rows[0][0] = 90
        rows.append([0, 0, 0, 0])
        self.assert_files(files, {"a": rows_of(2)})
        row = [1, 2, 3, 4]
        files.store_row("a", 1, row)
        self.assertEqual(row, [1, 2, 3, 4])
        row[0] = 91
        self.assert_files(files, {"a": [rows_of(2)[0], [1, 2, 3, 4]]})

    def test_storing_changes_no_row_handed_in(self):
        files = Files()
        rows = rows_of(2)
        files.make("a", rows)
        files.make("b", rows)
        files.store_row("a", 0, [1, 2, 3, 4])
        self.assertEqual(rows, rows_of(2))
        self.assert_files(files, {"a": [[1, 2, 3, 4], rows_of(2)[1]], "b": rows_of(2)})

    def test_one_row_handed_in_for_two_pages(self):
        files = Files()
        row = [1, 2, 3, 4]
        files.make("a", [row, row])
        files.store_row("a", 0, [0, 0, 0, 0])
        self.assert_files(files, {"a": [[0, 0, 0, 0], [1, 2, 3, 4]]})

    def test_told_lists_are_the_askers_own(self):
        files = Files()
        files.make("a", rows_of(1))
        row = files.row_at("a", 0)
        row[0] = 90
        row.append(91)
        names = files.names()
        names.append("b")
        self.assert_files(files, {"a": rows_of(1)})
        row = files.row_at("a", 0)
        names = files.names()
        files.store_row("a", 0, [0, 0, 0, 0])
        files.make("b", rows_of(1))
        files.drop("a")
        self.assertEqual(row, rows_of(1)[0])
        self.assertEqual(names, ["a"])

    def test_files_made_apart_have_nothing_in_common(self):
        one = Files()
        other = Files()
        one.make("a", rows_of(1))
        self.assert_files(other, {})
        other.make("a", rows_of(2))
        other.make("b", rows_of(2))
        one.store_row("a", 0, [1, 1, 1, 1])
        self.assert_files(one, {"a": [[1, 1, 1, 1]]})
        self.assert_files(other, {"a": rows_of(2), "b": rows_of(2)})
        one.drop("a")
        self.assert_files(other, {"a": rows_of(2), "b": rows_of(2)})


if __name__ == "__main__":
    unittest.main()
