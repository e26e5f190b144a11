import inspect
import unittest

from paneworks import store as module
from paneworks.dial import Dial
from paneworks.errors import Full, NoFile
from paneworks.files import Files
from paneworks.frames import Frames
from paneworks.places import is_whole
from paneworks.shelf import Shelf
from paneworks.store import Store, bring, file_now, forget_file, have_frame, put_out, row_now

ARGUMENTS = {
    "have_frame": ["store"],
    "put_out": ["store", "frame"],
    "bring": ["store", "thing"],
    "row_now": ["store", "thing"],
    "file_now": ["store", "name"],
    "forget_file": ["store", "name"],
}


def own(sheet):
    return ("own", sheet)


def page_of_file(page, name="a"):
    return ("file", name, page)


def file_rows(many):
    return [[100 + page] * 4 for page in range(many)]


def sheet_row(sheet):
    return [sheet, sheet, sheet, sheet]


def seen(store):
    """All that a store's four parts tell."""
    things = store.frames.things()
    rows = [None if thing is None else store.frames.row_in(frame) for frame, thing in enumerate(things)]
    soiled = [store.frames.is_soiled(frame) for frame in range(len(things))]
    sheets = store.shelf.sheets()
    shelved = {sheet: store.shelf.row_of_sheet(sheet) for sheet in sheets if sheet is not None}
    files = {name: [store.files.row_at(name, page) for page in range(store.files.size_of(name))]
             for name in store.files.names()}
    return {"things": things, "rows": rows, "soiled": soiled, "sheets": sheets, "shelved": shelved, "files": files,
            "marks": store.dial.marks(), "pointer": store.dial.pointer()}


def store_with(many, places, things, shelved=(), marks=(), files=None):
    """A store with these things in its frames from frame 0 on and these sheets on its shelf."""
    store = Store(many, places)
    for name, rows in (files or {"a": file_rows(8), "b": file_rows(2)}).items():
        store.files.make(name, rows)
    for frame, thing in enumerate(things):
        if thing is not None and thing[0] == "own":
            store.frames.fill(frame, thing, sheet_row(thing[1]))
        elif thing is not None:
            store.frames.fill(frame, thing, store.files.row_at(thing[1], thing[2]))
    for sheet in shelved:
        store.shelf.put_on(sheet, sheet_row(sheet))
    for frame in marks:
        store.dial.touch(frame)
    return store


class StoreCase(unittest.TestCase):
    def assert_changed(self, store, before, **changes):
        """All is as before but for what is told here."""
        wanted = dict(before)
        wanted.update(changes)
        self.assertEqual(seen(store), wanted)

    def assert_whole(self, told, wanted):
        self.assertEqual(told, wanted)
        self.assertIs(is_whole(told), True)

    def assert_brought(self, told, frame, filled):
        self.assertIs(told.__class__, tuple)
        self.assertEqual(len(told), 2)
        self.assert_whole(told[0], frame)
        self.assertIs(told[1], filled)

    def assert_refused(self, refusal, deed, store, *handed):
        before = seen(store)
        with self.assertRaises(refusal) as caught:
            deed(store, *handed)
        self.assertIs(caught.exception.__class__, refusal)
        self.assertEqual(seen(store), before)


class InterfaceTest(unittest.TestCase):
    def test_names_and_arguments(self):
        self.assertEqual(list(inspect.signature(Store).parameters), ["many", "places"])
        for name, arguments in ARGUMENTS.items():
            with self.subTest(name=name):
                self.assertEqual(list(inspect.signature(getattr(module, name)).parameters), arguments)


class NewStoreTest(StoreCase):
    def test_the_four_parts(self):
        for many, places in [(1, 0), (1, 1), (2, 3), (64, 512)]:
            store = Store(many, places)
            self.assertIsInstance(store.frames, Frames)
            self.assertIsInstance(store.dial, Dial)
            self.assertIsInstance(store.shelf, Shelf)
            self.assertIsInstance(store.files, Files)
            self.assertEqual(seen(store), {
                "things": [None] * many, "rows": [None] * many, "soiled": [False] * many,
                "sheets": [None] * places, "shelved": {}, "files": {}, "marks": [False] * many, "pointer": 0})

    def test_stores_made_apart_have_nothing_in_common(self):
        one = Store(2, 2)
        other = Store(2, 2)
        before = seen(other)
        one.files.make("a", file_rows(3))
        bring(one, page_of_file(0))
        one.dial.touch(1)
        one.frames.put_in(0, 0, [5])
        one.frames.fill(1, own(1), sheet_row(1))
        put_out(one, 1)
        self.assertEqual(seen(other), before)
        other.files.make("a", file_rows(1))
        forget_file(other, "a")
        self.assertEqual(file_now(one, "a"), [[5, 100, 100, 100]] + file_rows(3)[1:])


class HaveFrameTest(StoreCase):
    def test_the_least_free_one(self):
        for things, frame in [
            ([None, None, None], 0), ([own(1), None, None], 1), ([None, own(1), None], 0),
            ([own(1), None, own(2)], 1), ([own(1), page_of_file(0), None], 2),
        ]:
            for marks in [(), (0, 1, 2), (1,)]:
                store = store_with(3, 2, things, shelved=(9,), marks=marks)
                before = seen(store)
                self.assert_whole(have_frame(store), frame)
                self.assert_changed(store, before)

    def test_a_free_one_is_had_with_a_full_shelf_too(self):
        store = store_with(2, 0, [own(1), None], marks=(1,))
        before = seen(store)
        self.assert_whole(have_frame(store), 1)
        self.assert_changed(store, before)

    def test_a_sheet_goes_to_the_least_free_place(self):
        store = store_with(2, 3, [own(1), own(2)], shelved=(7, 8))
        store.shelf.take_off(7)
        before = seen(store)
        self.assert_whole(have_frame(store), 0)
        self.assert_changed(store, before, things=[None, own(2)], rows=[None, sheet_row(2)], sheets=[1, 8, None],
                            shelved={1: sheet_row(1), 8: sheet_row(8)}, pointer=1)
        store.frames.fill(0, own(3), sheet_row(3))
        before = seen(store)
        self.assert_whole(have_frame(store), 1)
        self.assert_changed(store, before, things=[own(3), None], rows=[sheet_row(3), None], sheets=[1, 8, 2],
                            shelved={1: sheet_row(1), 2: sheet_row(2), 8: sheet_row(8)}, pointer=0)

    def test_with_a_full_shelf_only_pages_of_files_go(self):
        for places, shelved in [(0, ()), (1, (9,)), (2, (8, 9))]:
            for marks in [(), (0, 2), (0, 1, 2)]:
                store = store_with(3, places, [own(1), page_of_file(4), own(2)], shelved=shelved, marks=marks)
                before = seen(store)
                self.assert_whole(have_frame(store), 1)
                wanted = list(before["marks"])
                wanted[1] = False
                self.assert_changed(store, before, things=[own(1), None, own(2)], marks=wanted, pointer=2,
                                    rows=[sheet_row(1), None, sheet_row(2)])

    def test_with_marks_the_dial_passes_and_takes_them(self):
        store = store_with(3, 1, [own(1), page_of_file(0), own(2)], marks=(0, 1))
        before = seen(store)
        self.assert_whole(have_frame(store), 2)
        self.assert_changed(store, before, things=[own(1), page_of_file(0), None], soiled=[False] * 3,
                            rows=[sheet_row(1), file_rows(1)[0], None], marks=[False] * 3, pointer=0, sheets=[2],
                            shelved={2: sheet_row(2)})

    def test_a_soiled_page_is_stored_as_it_goes(self):
        store = store_with(1, 0, [page_of_file(3)])
        store.frames.put_in(0, 1, [5, 6])
        before = seen(store)
        rows = file_rows(8)
        rows[3] = [103, 5, 6, 103]
        self.assert_whole(have_frame(store), 0)
        self.assert_changed(store, before, things=[None], rows=[None], soiled=[False],
                            files={"a": rows, "b": file_rows(2)})

    def test_full_where_no_frame_may_go(self):
        for marks in [(), (1,), (0, 1)]:
            self.assert_refused(Full, have_frame, store_with(2, 1, [own(1), own(2)], shelved=(9,), marks=marks))
            self.assert_refused(Full, have_frame, store_with(2, 0, [own(1), own(2)], marks=marks))

    def test_sixty_four_frames_each_in_its_turn(self):
        store = store_with(64, 512, [own(frame + 1) for frame in range(64)])
        for step in range(130):
            self.assert_whole(have_frame(store), step % 64)
            self.assertIsNone(store.frames.thing_in(step % 64))
            store.frames.fill(step % 64, own(65 + step), sheet_row(65 + step))
        self.assertEqual(store.shelf.sheets()[:131], list(range(1, 131)) + [None])


class PutOutTest(StoreCase):
    def test_a_sheet(self):
        for soiled in [False, True]:
            for marks in [(), (1,), (0, 1, 2)]:
                store = store_with(3, 3, [own(4), own(5), page_of_file(0)], shelved=(8, 9), marks=marks)
                store.shelf.take_off(8)
                row = sheet_row(5)
                if soiled:
                    store.frames.put_in(1, 3, [77])
                    row = [5, 5, 5, 77]
                before = seen(store)
                put_out(store, 1)
                wanted = list(before["marks"])
                wanted[1] = False
                self.assert_changed(store, before, things=[own(4), None, page_of_file(0)], soiled=[False] * 3,
                                    rows=[sheet_row(4), None, file_rows(1)[0]], sheets=[5, 9, None],
                                    shelved={5: row, 9: sheet_row(9)}, marks=wanted)

    def test_a_sheet_on_the_last_place(self):
        store = store_with(1, 2, [own(5)], shelved=(9,))
        put_out(store, 0)
        self.assertEqual(store.shelf.sheets(), [9, 5])
        self.assertIs(store.shelf.is_full(), True)

    def test_a_soiled_page_of_a_file(self):
        store = store_with(2, 0, [page_of_file(1, "b"), page_of_file(7)], marks=(0, 1))
        store.frames.put_in(1, 0, [1, 2, 3, 4])
        store.frames.put_in(0, 0, [9])
        before = seen(store)
        put_out(store, 1)
        self.assert_changed(store, before, things=[page_of_file(1, "b"), None], rows=[[9, 101, 101, 101], None],
                            soiled=[True, False], marks=[True, False],
                            files={"a": file_rows(7) + [[1, 2, 3, 4]], "b": file_rows(2)})
        before = seen(store)
        put_out(store, 0)
        self.assert_changed(store, before, things=[None, None], rows=[None, None], soiled=[False, False],
                            marks=[False, False],
                            files={"a": file_rows(7) + [[1, 2, 3, 4]], "b": [[100] * 4, [9, 101, 101, 101]]})

    def test_a_page_that_is_not_soiled_leaves_the_file(self):
        store = store_with(1, 0, [page_of_file(2)], marks=(0,))
        # The file gets another row behind the frame, so storing the frame's row would be seen.
        store.files.store_row("a", 2, [1, 2, 3, 4])
        before = seen(store)
        put_out(store, 0)
        self.assert_changed(store, before, things=[None], rows=[None], marks=[False])

    def test_the_pointer_stays(self):
        store = store_with(3, 3, [own(1), own(2), own(3)])
        have_frame(store)
        self.assertEqual(store.dial.pointer(), 1)
        put_out(store, 2)
        self.assertEqual(store.dial.pointer(), 1)

    def test_a_row_put_out_is_apart_from_the_frame(self):
        store = store_with(1, 1, [own(1)])
        put_out(store, 0)
        store.frames.fill(0, own(2), sheet_row(2))
        store.frames.put_in(0, 0, [9, 9, 9, 9])
        self.assertEqual(store.shelf.row_of_sheet(1), sheet_row(1))


class BringTest(StoreCase):
    def test_of_what_a_frame_has(self):
        store = store_with(3, 1, [own(1), page_of_file(2), own(3)], shelved=(9,), marks=(0,))
        store.frames.put_in(1, 0, [55])
        before = seen(store)
        for frame, thing in enumerate(before["things"]):
            self.assert_brought(bring(store, thing), frame, False)
            self.assert_changed(store, before)

    def test_of_a_sheet_on_the_shelf(self):
        store = store_with(2, 3, [own(1), None], shelved=(8, 9), marks=(1,))
        before = seen(store)
        self.assert_brought(bring(store, own(8)), 1, True)
        self.assert_changed(store, before, things=[own(1), own(8)], rows=[sheet_row(1), sheet_row(8)],
                            sheets=[None, 9, None], shelved={9: sheet_row(9)})
        before = seen(store)
        self.assert_brought(bring(store, own(8)), 1, False)
        self.assert_changed(store, before)

    def test_of_a_sheet_from_a_full_shelf(self):
        for places in [1, 2, 3]:
            for gone in range(places):
                shelved = list(range(10, 10 + places))
                store = store_with(2, places, [own(1), own(2)], shelved=shelved, marks=(0,))
                before = seen(store)
                self.assert_brought(bring(store, own(10 + gone)), 1, True)
                sheets = list(shelved)
                sheets[gone] = 2
                self.assert_changed(store, before, things=[own(1), own(10 + gone)], sheets=sheets,
                                    rows=[sheet_row(1), sheet_row(10 + gone)], marks=[False, False], pointer=0,
                                    shelved={sheet: sheet_row(sheet) for sheet in sheets})

    def test_of_a_page_of_a_file(self):
        store = store_with(2, 1, [own(1), None])
        before = seen(store)
        self.assert_brought(bring(store, page_of_file(7)), 1, True)
        self.assert_changed(store, before, things=[own(1), page_of_file(7)], rows=[sheet_row(1), [107] * 4])
        before = seen(store)
        self.assert_brought(bring(store, page_of_file(0, "b")), 0, True)
        self.assert_changed(store, before, things=[page_of_file(0, "b"), page_of_file(7)], sheets=[1],
                            shelved={1: sheet_row(1)}, rows=[[100] * 4, [107] * 4], pointer=1)

    def test_of_a_page_through_one_frame(self):
        store = store_with(1, 0, [])
        for step in range(3):
            for page in range(8):
                self.assert_brought(bring(store, page_of_file(page)), 0, True)
                self.assertEqual(store.frames.row_in(0), [100 + page + step] + [100 + page] * 3)
                self.assertIs(store.frames.is_soiled(0), False)
                store.frames.put_in(0, 0, [100 + page + step + 1])
        put_out(store, 0)
        self.assertEqual(store.files.row_at("a", 5), [108, 105, 105, 105])

    def test_a_page_that_was_put_out_soiled_comes_again_not_soiled(self):
        store = store_with(1, 0, [page_of_file(3)])
        store.frames.put_in(0, 0, [1, 2, 3, 4])
        bring(store, page_of_file(4))
        self.assert_brought(bring(store, page_of_file(3)), 0, True)
        self.assertEqual(store.frames.row_in(0), [1, 2, 3, 4])
        self.assertIs(store.frames.is_soiled(0), False)

    def test_a_sheet_lies_in_one_place_alone(self):
        store = store_with(2, 4, [own(1), own(2)], shelved=(3, 4, 5))
        for step in range(60):
            sheet = 1 + step * 7 % 5
            frame = bring(store, own(sheet))[0]
            self.assertEqual(store.frames.thing_in(frame), own(sheet))
            self.assertEqual(store.frames.row_in(frame), sheet_row(sheet))
            held = [thing[1] for thing in store.frames.things() if thing is not None]
            lying = [sheet for sheet in store.shelf.sheets() if sheet is not None]
            self.assertEqual(sorted(held + lying), [1, 2, 3, 4, 5])

    def test_names_alike_and_kinds_stay_apart(self):
        files = {"a": [[1, 1, 1, 1]], "ab": [[2, 2, 2, 2]], "b": [[3, 3, 3, 3]]}
        store = store_with(4, 0, [], files=files)
        for frame, name in enumerate(["a", "ab", "b"]):
            self.assert_brought(bring(store, page_of_file(0, name)), frame, True)
            self.assertEqual(store.frames.row_in(frame), files[name][0])


class RowNowTest(StoreCase):
    def test_wherever_it_lies(self):
        store = store_with(3, 2, [own(1), page_of_file(2)], shelved=(9,), marks=(0,))
        store.frames.put_in(0, 0, [70])
        store.frames.put_in(1, 3, [71])
        before = seen(store)
        for thing, row in [(own(1), [70, 1, 1, 1]), (page_of_file(2), [102, 102, 102, 71]), (own(9), sheet_row(9)),
                           (page_of_file(3), [103] * 4), (page_of_file(1, "b"), [101] * 4)]:
            with self.subTest(thing=thing):
                told = row_now(store, thing)
                self.assertEqual(told, row)
                self.assertIs(told.__class__, list)
                told[0] = 99
                told.append(98)
                self.assert_changed(store, before)
                self.assertEqual(row_now(store, thing), row)

    def test_what_is_done_later_changes_no_told_row(self):
        store = store_with(2, 2, [own(1)], shelved=(9,))
        told = [row_now(store, own(1)), row_now(store, own(9)), row_now(store, page_of_file(0))]
        store.frames.put_in(0, 0, [70, 70, 70, 70])
        store.files.store_row("a", 0, [71, 71, 71, 71])
        store.frames.put_in(bring(store, own(9))[0], 0, [72])
        self.assertEqual(told, [sheet_row(1), sheet_row(9), [100] * 4])

    def test_of_what_goes_out_and_comes_again(self):
        store = store_with(1, 1, [own(1)])
        store.frames.put_in(0, 2, [50])
        self.assertEqual(row_now(store, own(1)), [1, 1, 50, 1])
        put_out(store, 0)
        self.assertEqual(row_now(store, own(1)), [1, 1, 50, 1])
        bring(store, own(1))
        self.assertEqual(row_now(store, own(1)), [1, 1, 50, 1])


class FileNowTest(StoreCase):
    def test_with_pages_in_frames_that_were_written(self):
        store = store_with(4, 1, [page_of_file(7), own(1), page_of_file(0), page_of_file(0, "b")], marks=(1, 2))
        store.frames.put_in(0, 0, [1, 2, 3, 4])
        store.frames.put_in(2, 3, [5])
        store.frames.put_in(3, 0, [6])
        before = seen(store)
        rows = file_rows(8)
        rows[7] = [1, 2, 3, 4]
        rows[0] = [100, 100, 100, 5]
        told = file_now(store, "a")
        self.assertEqual(told, rows)
        self.assertIs(told.__class__, list)
        self.assert_changed(store, before)
        told[0][0] = 90
        told[3][0] = 91
        told.pop()
        self.assert_changed(store, before)
        self.assertEqual(file_now(store, "a"), rows)
        self.assertEqual(file_now(store, "b"), [[6, 100, 100, 100], [101] * 4])

    def test_with_no_page_in_a_frame(self):
        for many in [1, 64]:
            store = store_with(1, 0, [], files={"a": file_rows(many)})
            self.assertEqual(file_now(store, "a"), file_rows(many))

    def test_what_is_done_later_changes_no_told_file(self):
        store = store_with(1, 0, [page_of_file(0)])
        told = file_now(store, "a")
        store.frames.put_in(0, 0, [1, 2, 3, 4])
        store.files.store_row("a", 1, [5, 6, 7, 8])
        self.assertEqual(told, file_rows(8))

    def test_a_name_that_no_file_has(self):
        store = store_with(2, 1, [page_of_file(0), own(1)])
        for name in ["c", "aa", "abcdefgh"]:
            self.assert_refused(NoFile, file_now, store, name)
        self.assert_refused(NoFile, file_now, Store(1, 0), "a")


class ForgetTest(StoreCase):
    def test_the_frames_of_its_pages_alone(self):
        files = {"a": file_rows(4), "aa": file_rows(4), "b": file_rows(4)}
        things = [page_of_file(0), own(1), page_of_file(0, "aa"), page_of_file(3), None, page_of_file(1, "b")]
        for marks in [(), (0, 3), (1, 2, 4, 5), range(6)]:
            store = store_with(6, 2, things, shelved=(9,), marks=marks, files=files)
            store.frames.put_in(3, 0, [70])
            store.frames.put_in(2, 0, [71])
            before = seen(store)
            forget_file(store, "a")
            self.assert_changed(
                store, before,
                things=[None, own(1), page_of_file(0, "aa"), None, None, page_of_file(1, "b")],
                rows=[None, sheet_row(1), [71, 100, 100, 100], None, None, [101] * 4],
                soiled=[False, False, True, False, False, False],
                marks=[mark and frame not in (0, 3) for frame, mark in enumerate(before["marks"])],
                files={"aa": file_rows(4), "b": file_rows(4)})

    def test_whichever_file_it_is(self):
        files = {"a": file_rows(1), "ab": file_rows(1), "b": file_rows(1)}
        for gone in files:
            store = store_with(4, 1, [page_of_file(0, name) for name in files] + [own(1)], files=files)
            forget_file(store, gone)
            self.assertEqual(store.frames.things(),
                             [None if name == gone else page_of_file(0, name) for name in files] + [own(1)])
            self.assertEqual(store.files.names(), [name for name in files if name != gone])

    def test_no_page_in_a_frame(self):
        store = store_with(2, 1, [own(1), page_of_file(0, "b")], marks=(0, 1))
        before = seen(store)
        forget_file(store, "a")
        self.assert_changed(store, before, files={"b": file_rows(2)})

    def test_all_pages_in_frames(self):
        store = store_with(64, 0, [page_of_file(page) for page in range(64)], marks=range(64),
                           files={"a": file_rows(64)})
        forget_file(store, "a")
        self.assertEqual(seen(store), seen(Store(64, 0)))

    def test_a_name_used_again_has_the_new_rows(self):
        store = store_with(1, 0, [page_of_file(0)])
        store.frames.put_in(0, 0, [1, 2, 3, 4])
        forget_file(store, "a")
        self.assert_refused(NoFile, file_now, store, "a")
        store.files.make("a", [[5, 6, 7, 8]])
        self.assertEqual(file_now(store, "a"), [[5, 6, 7, 8]])
        self.assert_brought(bring(store, page_of_file(0)), 0, True)
        self.assertEqual(store.frames.row_in(0), [5, 6, 7, 8])

    def test_a_name_that_no_file_has(self):
        store = store_with(2, 1, [page_of_file(0), own(1)], marks=(0, 1))
        for name in ["c", "aa", "own"]:
            self.assert_refused(NoFile, forget_file, store, name)
        forget_file(store, "a")
        self.assert_refused(NoFile, forget_file, store, "a")


class LongRunTest(StoreCase):
    """However few the frames, each thing keeps what was last written to it, and nothing is refused."""

    def walk(self, many, places):
        sheets = list(range(1, many + places))
        store = store_with(many, places, [own(sheet) for sheet in sheets[:many - 1]], shelved=sheets[many - 1:])
        wanted = {own(sheet): sheet_row(sheet) for sheet in sheets}
        wanted.update({page_of_file(page): row for page, row in enumerate(file_rows(8))})
        wanted.update({page_of_file(page, "b"): row for page, row in enumerate(file_rows(2))})
        things = list(wanted)
        chance = 1
        for step in range(400):
            chance = chance * 75 % 65537
            thing = things[chance % len(things)]
            where = store.frames.where(thing)
            frame, filled = bring(store, thing)
            self.assertIs(filled, where is None)
            self.assertEqual(store.frames.row_in(frame), wanted[thing])
            if chance % 3 == 0:
                store.dial.touch(frame)
            if chance % 2 == 0:
                store.frames.put_in(frame, chance % 4, [step])
                wanted[thing] = list(wanted[thing])
                wanted[thing][chance % 4] = step
            if step % 20 == 0:
                self.assertEqual({one: row_now(store, one) for one in things}, wanted)
        self.assertEqual(file_now(store, "a"), [wanted[page_of_file(page)] for page in range(8)])
        self.assertEqual(file_now(store, "b"), [wanted[page_of_file(page, "b")] for page in range(2)])

    def test_with_as_many_sheets_as_there_is_room_for(self):
        for many, places in [(1, 0), (1, 1), (1, 4), (2, 0), (2, 1), (3, 3), (5, 2), (64, 8)]:
            with self.subTest(many=many, places=places):
                self.walk(many, places)


class UntouchedTest(StoreCase):
    def test_no_function_gives_a_mark(self):
        store = store_with(3, 2, [own(1), page_of_file(0)], shelved=(9,))
        bring(store, own(1))
        bring(store, own(9))
        bring(store, page_of_file(5))
        bring(store, page_of_file(0))
        bring(store, own(1))
        have_frame(store)
        row_now(store, own(1))
        file_now(store, "a")
        for frame, thing in enumerate(store.frames.things()):
            if thing is not None and not store.shelf.is_full():
                put_out(store, frame)
        forget_file(store, "a")
        self.assertEqual(store.dial.marks(), [False] * 3)


if __name__ == "__main__":
    unittest.main()
