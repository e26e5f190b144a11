import inspect
import random
import unittest

from paneworks import sheets as module
from paneworks.errors import Full
from paneworks.places import is_whole
from paneworks.sheets import hold, holders_of, let_go, new_sheet, room_of
from paneworks.store import Store, bring, file_now, forget_file, have_frame, put_out, row_now

ARGUMENTS = {
    "new_sheet": ["store", "row"],
    "hold": ["store", "sheet"],
    "let_go": ["store", "sheet"],
    "holders_of": ["store", "sheet"],
    "room_of": ["store"],
}
SIZES = [(many, places) for many in (1, 2, 64) for places in (0, 1, 5, 512)]
NAMES = ["a", "ab", "b", "zzzzzzzz"]


def own(sheet):
    return ("own", sheet)


def sheet_row(sheet):
    return [sheet, -sheet, 10 ** 60 - sheet, sheet - 10 ** 60]


def file_rows(many, begin=1000):
    return [[begin + page, 0, -1, begin] for page in range(many)]


def seen(store, last=0):
    """All that a store tells, the holders of all sheets up to the last one among it."""
    things = store.frames.things()
    sheets = store.shelf.sheets()
    return {
        "things": things,
        "rows": [None if thing is None else store.frames.row_in(frame) for frame, thing in enumerate(things)],
        "soiled": [store.frames.is_soiled(frame) for frame in range(len(things))],
        "sheets": sheets,
        "shelved": {sheet: store.shelf.row_of_sheet(sheet) for sheet in sheets if sheet is not None},
        "files": {name: [store.files.row_at(name, page) for page in range(store.files.size_of(name))]
                  for name in store.files.names()},
        "marks": store.dial.marks(),
        "pointer": store.dial.pointer(),
        "holders": [holders_of(store, sheet) for sheet in range(last + 2)],
        "room": room_of(store),
    }


def store_of_sheets(many, places, made):
    """A store with so many sheets, made in it one behind the other."""
    store = Store(many, places)
    for sheet in range(1, made + 1):
        new_sheet(store, sheet_row(sheet))
    return store


def frame_due(store, shelf_is_full):
    """Which frame is had, and what the dial tells then, by point 20 alone."""
    things = store.frames.things()
    marks = store.dial.marks()
    pointer = store.dial.pointer()
    if None in things:
        return things.index(None), marks, pointer
    while True:
        frame = pointer
        pointer = (pointer + 1) % len(things)
        if things[frame][0] == "file" or not shelf_is_full:
            if not marks[frame]:
                return frame, marks, pointer
            marks[frame] = False


class SheetsCase(unittest.TestCase):
    def assert_whole(self, told, wanted):
        self.assertEqual(told, wanted)
        self.assertIs(is_whole(told), True)

    def assert_made(self, told, sheet, frame):
        self.assertIs(told.__class__, tuple)
        self.assertEqual(len(told), 2)
        self.assert_whole(told[0], sheet)
        self.assert_whole(told[1], frame)

    def assert_changed(self, store, before, last, **changes):
        """All is as before but for what is told here."""
        wanted = dict(before)
        wanted.update(changes)
        self.assertEqual(seen(store, last), wanted)

    def assert_full(self, store, last):
        before = seen(store, last)
        with self.assertRaises(Full) as caught:
            new_sheet(store, [1, 2, 3, 4])
        self.assertIs(caught.exception.__class__, Full)
        self.assertEqual(seen(store, last), before)


class InterfaceTest(unittest.TestCase):
    def test_names_and_arguments(self):
        for name, arguments in ARGUMENTS.items():
            with self.subTest(name=name):
                self.assertEqual(list(inspect.signature(getattr(module, name)).parameters), arguments)


class NewSheetTest(SheetsCase):
    def test_numbered_one_behind_the_other(self):
        for many, places in SIZES:
            store = Store(many, places)
            for sheet in range(1, many + places):
                told = new_sheet(store, sheet_row(sheet))
                self.assert_made(told, sheet, (sheet - 1) % many)
                self.assertEqual(store.frames.thing_in(told[1]), own(sheet))
                self.assertEqual(store.frames.row_in(told[1]), sheet_row(sheet))
                self.assertIs(store.frames.is_soiled(told[1]), False)
                self.assert_whole(holders_of(store, sheet), 1)

    def test_into_the_least_free_frame(self):
        store = store_of_sheets(4, 2, 4)
        let_go(store, 2)
        let_go(store, 4)
        store.dial.touch(0)
        store.dial.touch(1)
        before = seen(store, 5)
        self.assert_made(new_sheet(store, sheet_row(5)), 5, 1)
        self.assert_changed(store, before, 5, things=[own(1), own(5), own(3), None], room=2,
                            rows=[sheet_row(1), sheet_row(5), sheet_row(3), None],
                            holders=[0, 1, 0, 1, 0, 1, 0])

    def test_into_a_frame_that_is_put_out_for_it(self):
        store = store_of_sheets(3, 3, 3)
        store.dial.touch(0)
        before = seen(store, 4)
        self.assert_made(new_sheet(store, sheet_row(4)), 4, 1)
        self.assert_changed(store, before, 4, things=[own(1), own(4), own(3)], sheets=[2, None, None], room=1,
                            rows=[sheet_row(1), sheet_row(4), sheet_row(3)], shelved={2: sheet_row(2)},
                            marks=[False] * 3, pointer=2, holders=[0, 1, 1, 1, 1, 0])

    def test_no_number_twice_behind_sheets_that_ended(self):
        for many, places in [(2, 0), (1, 1), (2, 5), (64, 0)]:
            store = Store(many, places)
            for sheet in range(1, 200):
                self.assert_whole(new_sheet(store, sheet_row(sheet))[0], sheet)
                let_go(store, sheet)
                self.assertEqual(seen(store, sheet), seen(Store(many, places), sheet))

    def test_the_row_is_apart_from_the_one_handed_in(self):
        store = Store(2, 0)
        row = [1, 2, 3, 4]
        new_sheet(store, row)
        self.assertEqual(row, [1, 2, 3, 4])
        row[0] = 9
        self.assertEqual(store.frames.row_in(0), [1, 2, 3, 4])
        store.frames.put_in(0, 1, [7])
        self.assertEqual(row, [9, 2, 3, 4])

    def test_stores_made_apart_have_nothing_in_common(self):
        one = Store(2, 2)
        other = Store(2, 2)
        before = seen(other, 3)
        new_sheet(one, sheet_row(1))
        new_sheet(one, sheet_row(2))
        hold(one, 1)
        let_go(one, 2)
        self.assertEqual(seen(other, 3), before)
        self.assert_made(new_sheet(other, sheet_row(1)), 1, 0)
        let_go(other, 1)
        self.assert_whole(holders_of(one, 1), 2)


class RoomTest(SheetsCase):
    def test_at_first(self):
        for many, places in SIZES:
            self.assert_whole(room_of(Store(many, places)), many - 1 + places)

    def test_behind_each_deed(self):
        store = Store(2, 2)
        deeds = [
            (lambda: new_sheet(store, sheet_row(1)), 2), (lambda: hold(store, 1), 2),
            (lambda: new_sheet(store, sheet_row(2)), 1), (lambda: put_out(store, 0), 1),
            (lambda: store.files.make("a", file_rows(3)), 1), (lambda: bring(store, ("file", "a", 0)), 1),
            (lambda: have_frame(store), 1), (lambda: bring(store, own(1)), 1),
            (lambda: let_go(store, 1), 1), (lambda: row_now(store, own(2)), 1),
            (lambda: forget_file(store, "a"), 1), (lambda: new_sheet(store, sheet_row(3)), 0),
            (lambda: let_go(store, 1), 1), (lambda: let_go(store, 3), 2), (lambda: let_go(store, 2), 3),
        ]
        for step, (deed, room) in enumerate(deeds):
            with self.subTest(step=step):
                deed()
                self.assert_whole(room_of(store), room)

    def test_full_just_where_it_is_nought(self):
        for many, places in SIZES:
            with self.subTest(many=many, places=places):
                most = many - 1 + places
                store = Store(many, places)
                for sheet in range(1, most + 1):
                    self.assert_whole(room_of(store), most - sheet + 1)
                    new_sheet(store, sheet_row(sheet))
                self.assert_whole(room_of(store), 0)
                self.assert_full(store, most)
                self.assert_full(store, most)

    def test_no_number_is_used_up_and_again_once_one_has_ended(self):
        for many, places in [(2, 0), (1, 1), (2, 1), (3, 5)]:
            most = many - 1 + places
            for gone in range(1, most + 1):
                store = store_of_sheets(many, places, most)
                self.assert_full(store, most)
                hold(store, gone)
                self.assert_whole(let_go(store, gone), 1)
                self.assert_full(store, most)
                self.assert_whole(let_go(store, gone), 0)
                self.assert_whole(room_of(store), 1)
                self.assert_whole(new_sheet(store, sheet_row(most + 1))[0], most + 1)
                self.assert_full(store, most + 1)

    def test_full_with_a_written_page_of_a_file_in_a_frame(self):
        store = store_of_sheets(3, 2, 4)
        store.files.make("a", file_rows(2))
        bring(store, ("file", "a", 0))
        store.frames.put_in(store.frames.where(("file", "a", 0)), 0, [5])
        self.assert_full(store, 4)

    def test_full_with_a_free_frame(self):
        store = store_of_sheets(2, 1, 2)
        put_out(store, 0)
        self.assertEqual(store.frames.things(), [None, own(2)])
        self.assert_full(store, 2)

    def test_a_store_of_one_frame_and_no_place(self):
        store = Store(1, 0)
        self.assert_full(store, 0)
        store.files.make("a", file_rows(1))
        bring(store, ("file", "a", 0))
        self.assert_full(store, 0)

    def test_as_many_as_there_is_room_then_each_brought(self):
        for many, places in SIZES:
            with self.subTest(many=many, places=places):
                most = many - 1 + places
                store = store_of_sheets(many, places, most)
                wanted = {sheet: sheet_row(sheet) for sheet in range(1, most + 1)}
                for turn in (1, 2):
                    for sheet in wanted:
                        frame, filled = bring(store, own(sheet))
                        self.assertEqual(store.frames.thing_in(frame), own(sheet))
                        self.assertEqual(store.frames.row_in(frame), wanted[sheet])
                        store.frames.put_in(frame, sheet % 4, [turn])
                        wanted[sheet][sheet % 4] = turn
                self.assertEqual({sheet: row_now(store, own(sheet)) for sheet in wanted}, wanted)


class HoldersTest(SheetsCase):
    def test_one_more_and_one_less(self):
        store = store_of_sheets(2, 1, 2)
        before = seen(store, 2)
        for count in range(2, 20):
            self.assert_whole(hold(store, 1), count)
            self.assert_changed(store, before, 2, holders=[0, count, 1, 0])
        for count in range(18, 0, -1):
            self.assert_whole(let_go(store, 1), count)
            self.assert_changed(store, before, 2, holders=[0, count, 1, 0])
        self.assert_whole(let_go(store, 1), 0)

    def test_of_a_sheet_that_never_was_or_ended(self):
        store = store_of_sheets(3, 1, 2)
        for sheet in [0, -1, 3, 4, 10 ** 80]:
            self.assert_whole(holders_of(store, sheet), 0)
        let_go(store, 1)
        self.assert_whole(holders_of(store, 1), 0)
        self.assert_whole(holders_of(store, 2), 1)
        new_sheet(store, sheet_row(3))
        self.assert_whole(holders_of(store, 1), 0)
        self.assert_whole(holders_of(store, 3), 1)

    def test_asking_changes_nothing(self):
        store = store_of_sheets(2, 1, 2)
        before = seen(store, 2)
        holders_of(store, 1)
        holders_of(store, 7)
        room_of(store)
        self.assert_changed(store, before, 2)


class EndTest(SheetsCase):
    def test_in_a_frame(self):
        for gone in (1, 2, 3):
            for marks in [(), (0,), (1,), (0, 1, 2)]:
                for soiled in (False, True):
                    store = store_of_sheets(3, 2, 4)
                    put_out(store, 1)
                    bring(store, own(2))
                    # Sheets 4, 2 and 3 are in the frames, 1 on the shelf.
                    self.assertEqual(store.frames.things(), [own(4), own(2), own(3)])
                    for frame in marks:
                        store.dial.touch(frame)
                    sheet = (4, 2, 3)[gone - 1]
                    if soiled:
                        store.frames.put_in(gone - 1, 0, [5])
                    before = seen(store, 4)
                    self.assert_whole(let_go(store, sheet), 0)
                    wanted = {name: list(before[name]) for name in ("things", "rows", "soiled", "marks", "holders")}
                    wanted["things"][gone - 1] = None
                    wanted["rows"][gone - 1] = None
                    wanted["soiled"][gone - 1] = False
                    wanted["marks"][gone - 1] = False
                    wanted["holders"][sheet] = 0
                    self.assert_changed(store, before, 4, room=1, **wanted)

    def test_on_the_shelf(self):
        for gone in (1, 2, 3):
            store = store_of_sheets(2, 4, 5)
            self.assertEqual(store.shelf.sheets(), [1, 2, 3, None])
            store.dial.touch(0)
            store.dial.touch(1)
            before = seen(store, 5)
            self.assert_whole(let_go(store, gone), 0)
            left = [None if sheet == gone else sheet for sheet in (1, 2, 3, None)]
            self.assert_changed(store, before, 5, sheets=left, room=1,
                                shelved={sheet: sheet_row(sheet) for sheet in left if sheet is not None},
                                holders=[int(sheet in (1, 2, 3, 4, 5) and sheet != gone) for sheet in range(7)])

    def test_not_before_the_last_holder(self):
        for places in (0, 3):
            store = store_of_sheets(2, places, 1)
            if places:
                put_out(store, 0)
            hold(store, 1)
            store.dial.touch(0)
            before = seen(store, 1)
            self.assert_whole(let_go(store, 1), 1)
            self.assert_changed(store, before, 1, holders=[0, 1, 0])

    def test_a_frame_that_is_free_then_is_had(self):
        store = store_of_sheets(2, 1, 2)
        let_go(store, 1)
        self.assert_whole(have_frame(store), 0)
        self.assert_made(new_sheet(store, [1, 2, 3, 4]), 3, 0)
        self.assertEqual(store.shelf.sheets(), [None])

    def test_a_place_that_is_free_then_is_used(self):
        store = store_of_sheets(2, 3, 4)
        let_go(store, 1)
        new_sheet(store, sheet_row(5))
        self.assertEqual(store.shelf.sheets(), [3, 2, None])


class HaveFrameTest(SheetsCase):
    """Points 20 and 21 with sheets that were made in the store."""

    def test_all_frames_with_sheets_and_a_shelf_that_gets_full(self):
        for many, places in [(1, 1), (2, 1), (2, 5), (64, 5)]:
            for marks in [(), (0,), range(many)]:
                store = store_of_sheets(many, places, many + places - 1)
                shelved = store.shelf.sheets()
                self.assertEqual(shelved.count(None), 1)
                for frame in marks:
                    store.dial.touch(frame)
                before = seen(store)
                frame = have_frame(store)
                self.assertIsNone(store.frames.thing_in(frame))
                self.assertIs(store.dial.marks()[frame], False)
                gone = before["things"][frame][1]
                self.assertEqual(store.shelf.sheets(), [gone if sheet is None else sheet for sheet in shelved])
                self.assertEqual(store.shelf.row_of_sheet(gone), sheet_row(gone))
                self.assertIs(store.shelf.is_full(), True)
                # Had and not filled: it is had again, and nothing goes.
                before = seen(store)
                self.assert_whole(have_frame(store), frame)
                self.assertEqual(seen(store), before)

    def test_with_pages_of_a_file_and_a_full_shelf(self):
        for where in range(4):
            for marks in [(), (where,), range(4), (0, 3)]:
                for pointer in range(4):
                    store = self.full_but_for_a_page(where, pointer)
                    for frame in marks:
                        store.dial.touch(frame)
                    before = seen(store, 5)
                    self.assertEqual(before["pointer"], pointer)
                    self.assert_whole(have_frame(store), where)
                    wanted = {name: list(before[name]) for name in ("things", "rows", "soiled", "marks")}
                    wanted["things"][where] = None
                    wanted["rows"][where] = None
                    wanted["soiled"][where] = False
                    wanted["marks"][where] = False
                    self.assert_changed(store, before, 5, pointer=(where + 1) % 4,
                                        files={"a": [[1, 2, 3, 4]]}, **wanted)

    def full_but_for_a_page(self, where, pointer):
        """Four frames, a written page of a file in one, sheets in the others and on both places of the shelf."""
        store = store_of_sheets(4, 2, 5)
        store.files.make("a", file_rows(1))
        put_out(store, where)
        frame = bring(store, ("file", "a", 0))[0]
        self.assertEqual(frame, where)
        store.frames.put_in(frame, 0, [1, 2, 3, 4])
        self.assertIs(store.shelf.is_full(), True)
        store.dial.choose([frame == (pointer - 1) % 4 for frame in range(4)])
        return store

    def test_a_thing_from_a_full_shelf(self):
        for many, places in [(1, 1), (2, 1), (2, 3), (64, 5)]:
            for gone in range(places):
                store = store_of_sheets(many, places, many + places - 1)
                store.files.make("a", file_rows(1))
                bring(store, ("file", "a", 0))
                self.assertIs(store.shelf.is_full(), True)
                sheet = store.shelf.sheets()[gone]
                rows = {own(one): row_now(store, own(one)) for one in range(1, many + places)}
                frame, filled = bring(store, own(sheet))
                self.assertIs(filled, True)
                self.assertEqual(store.frames.thing_in(frame), own(sheet))
                self.assertEqual({thing: row_now(store, thing) for thing in rows}, rows)


class LongRunTest(SheetsCase):
    """Drawn deeds against plain dicts of holders and rows."""

    def begin(self, many, places, seed):
        self.draw = random.Random(seed)
        self.many = many
        self.most = many - 1 + places
        self.store = Store(many, places)
        self.made = 0
        self.holders = {}
        self.rows = {}

    def draw_row(self):
        return [self.draw.choice([0, 1, -1, 10 ** 60 - 1, 1 - 10 ** 60, self.draw.randrange(1000)]) for _ in range(4)]

    def assert_had(self, frame, due):
        self.assertEqual((frame, self.store.dial.marks(), self.store.dial.pointer()), due)

    def make_a_sheet(self):
        row = self.draw_row()
        if len(self.holders) == self.most:
            self.assert_full(self.store, self.made)
            return
        due = frame_due(self.store, self.store.shelf.is_full())
        sheet, frame = new_sheet(self.store, row)
        self.assert_had(frame, due)
        self.made += 1
        self.assertEqual(sheet, self.made)
        self.assertEqual(self.store.frames.thing_in(frame), own(sheet))
        self.holders[sheet] = 1
        self.rows[own(sheet)] = row

    def hold_one(self):
        if self.holders:
            sheet = self.draw.choice(sorted(self.holders))
            self.holders[sheet] += 1
            self.assertEqual(hold(self.store, sheet), self.holders[sheet])

    def let_one_go(self):
        if self.holders:
            sheet = self.draw.choice(sorted(self.holders))
            self.holders[sheet] -= 1
            self.assertEqual(let_go(self.store, sheet), self.holders[sheet])
            if self.holders[sheet] == 0:
                self.holders.pop(sheet)
                self.rows.pop(own(sheet))

    def have_one(self):
        due = frame_due(self.store, self.store.shelf.is_full())
        frame = have_frame(self.store)
        self.assert_had(frame, due)
        self.assertIsNone(self.store.frames.thing_in(frame))

    def put_one_out(self):
        frame = self.draw.randrange(self.many)
        thing = self.store.frames.thing_in(frame)
        if thing is not None and (thing[0] == "file" or not self.store.shelf.is_full()):
            put_out(self.store, frame)
            self.assertIsNone(self.store.frames.thing_in(frame))

    def make_or_forget_a_file(self):
        name = self.draw.choice(NAMES)
        if name in self.store.files.names():
            forget_file(self.store, name)
            self.rows = {thing: row for thing, row in self.rows.items() if thing[:2] != ("file", name)}
        else:
            rows = [self.draw_row() for _ in range(self.draw.choice([1, 2, 3, 64 if self.many == 64 else 4]))]
            self.store.files.make(name, rows)
            self.rows.update({("file", name, page): row for page, row in enumerate(rows)})

    def bring_and_write(self):
        if not self.rows:
            return
        thing = self.draw.choice(sorted(self.rows, key=str))
        due = (self.store.frames.where(thing), self.store.dial.marks(), self.store.dial.pointer())
        fills = due[0] is None
        if fills:
            # A sheet that comes from the shelf leaves a place free ahead of what goes out.
            due = frame_due(self.store, thing[0] == "file" and self.store.shelf.is_full())
        frame, filled = bring(self.store, thing)
        self.assertIs(filled, fills)
        self.assert_had(frame, due)
        self.assertEqual(self.store.frames.thing_in(frame), thing)
        self.assertEqual(self.store.frames.row_in(frame), self.rows[thing])
        if self.draw.randrange(2):
            cell = self.draw.randrange(4)
            numbers = self.draw_row()[:self.draw.randrange(1, 5 - cell)]
            self.store.frames.put_in(frame, cell, numbers)
            row = list(self.rows[thing])
            row[cell:cell + len(numbers)] = numbers
            self.rows[thing] = row

    def touch_or_clear(self):
        frame = self.draw.randrange(self.many)
        if self.draw.randrange(3):
            self.store.dial.touch(frame)
        else:
            self.store.dial.clear(frame)

    def check(self):
        things = [thing for thing in self.store.frames.things() if thing is not None]
        sheets = [thing[1] for thing in things if thing[0] == "own"]
        sheets += [sheet for sheet in self.store.shelf.sheets() if sheet is not None]
        self.assertEqual(sorted(sheets), sorted(self.holders))
        self.assertEqual(len(set(things)), len(things))
        self.assertEqual({thing: row_now(self.store, thing) for thing in self.rows}, self.rows)
        self.assertEqual([holders_of(self.store, sheet) for sheet in range(self.made + 2)],
                         [self.holders.get(sheet, 0) for sheet in range(self.made + 2)])
        self.assertEqual(room_of(self.store), self.most - len(self.holders))
        for name in self.store.files.names():
            pages = range(self.store.files.size_of(name))
            self.assertEqual(file_now(self.store, name), [self.rows[("file", name, page)] for page in pages])

    def test_each_row_is_as_last_written(self):
        sizes = [(1, 0), (1, 1), (1, 5), (2, 0), (2, 1), (2, 5), (3, 2), (5, 5), (64, 0), (64, 5), (2, 512)]
        for many, places in sizes:
            for seed in range(3):
                with self.subTest(many=many, places=places, seed=seed):
                    self.begin(many, places, seed)
                    deeds = [self.make_a_sheet] * 4 + [self.bring_and_write] * 6 + [
                        self.hold_one, self.let_one_go, self.let_one_go, self.have_one, self.put_one_out,
                        self.make_or_forget_a_file, self.touch_or_clear, self.touch_or_clear]
                    for _ in range(150):
                        self.draw.choice(deeds)()
                        self.check()


if __name__ == "__main__":
    unittest.main()
