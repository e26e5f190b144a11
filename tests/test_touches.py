import copy
import inspect
import unittest

from helper import NO_NUMBERS, seen
from paneworks import touches as module
from paneworks.errors import Full, NoNumber, NoPage, NoRight, NoSpace
from paneworks.maps import make_file, map_pages, set_rights, told_file, unmap_pages
from paneworks.spaces import end_space, fork_space, make_space
from paneworks.touches import read_cells, write_cells
from paneworks.world import (
    World, told_book, told_copies, told_frames, told_holders, told_marks, told_plan, told_pointer, told_room,
    told_shelf, told_spaces, told_walks, told_ways)

ARGUMENTS = {
    "read_cells": ["world", "hand", "space", "place", "many"],
    "write_cells": ["world", "hand", "space", "place", "numbers"],
}
FAR = [10 ** 80, -10 ** 80, 10 ** 5000]
MOST = 10 ** 60 - 1


def own(sheet):
    return ("own", sheet)


def of_file(page, name="a"):
    return ("file", name, page)


def file_rows(many):
    return [[100 + page, 200 + page, 300 + page, 400 + page] for page in range(many)]


def world_of(many, places, hands=2, slots=4, spaces=1):
    """A world with a file a of eight rows and so many spaces without stretches."""
    world = World(many, places, hands, slots)
    make_file(world, "a", file_rows(8))
    for space in range(spaces):
        make_space(world)
    return world


class TouchesCase(unittest.TestCase):
    def assert_refused(self, refusal, deed, world, *handed):
        before = seen(world)
        with self.assertRaises(refusal) as caught:
            deed(world, *handed)
        self.assertIs(caught.exception.__class__, refusal)
        self.assertEqual(seen(world), before)

    def assert_changed(self, world, before, **changes):
        """All is as before but for what is told here."""
        wanted = dict(before)
        wanted.update(changes)
        self.assertEqual(seen(world), wanted)

    def assert_told(self, world, **wanted):
        now = seen(world)
        self.assertEqual({name: now[name] for name in wanted}, wanted)


class InterfaceTest(unittest.TestCase):
    def test_names_and_arguments(self):
        for name, arguments in ARGUMENTS.items():
            with self.subTest(name=name):
                self.assertEqual(list(inspect.signature(getattr(module, name)).parameters), arguments)


class CellsTest(TouchesCase):
    def test_any_cells_within_a_page_and_over_several(self):
        for many, places in [(1, 300), (5, 300)]:
            world = world_of(many, places)
            map_pages(world, 1, 0, 256, "own", 2)
            cells = [0] * 1024
            for step, (place, count) in enumerate([
                (0, 1), (3, 1), (0, 4), (1, 2), (2, 2), (2, 3), (3, 9), (0, 64), (1, 64), (3, 64), (4, 61), (500, 63),
                (959, 64), (960, 64), (961, 63), (1020, 4), (1023, 1), (1022, 2), (511, 2), (63, 2),
            ]):
                numbers = [1000 * step + at for at in range(count)]
                handed = list(numbers)
                write_cells(world, 1, 1, place, handed)
                self.assertEqual(handed, numbers)
                cells[place:place + count] = numbers
                for near in (place, max(0, place - 3)):
                    for length in {1, min(count, 64), min(count + 3, 64, 1024 - near)}:
                        told = read_cells(world, 0, 1, near, length)
                        self.assertIs(told.__class__, list)
                        self.assertEqual(told, cells[near:near + length])
            for place in range(0, 1024, 64):
                self.assertEqual(read_cells(world, 1, 1, place, 64), cells[place:place + 64])

    def test_seventeen_pages(self):
        world = world_of(2, 30)
        map_pages(world, 1, 0, 256, "own", 2)
        write_cells(world, 0, 1, 3, list(range(64)))
        self.assertEqual([page for page, sheet in told_ways(world, 1)], list(range(17)))
        self.assertEqual(told_walks(world, 0), 17)
        self.assertEqual(read_cells(world, 1, 1, 3, 64), list(range(64)))
        self.assertEqual(told_walks(world, 1), 17)
        self.assertEqual(read_cells(world, 1, 1, 0, 3), [0, 0, 0])

    def test_no_cells(self):
        world = world_of(2, 2)
        map_pages(world, 1, 0, 1, "own", 0)
        before = seen(world)
        for place in (0, 1, 3, 4, 512, 1020, 1023):
            self.assertEqual(read_cells(world, 0, 1, place, 0), [])
            write_cells(world, 0, 1, place, [])
            self.assert_changed(world, before)

    def test_numbers_at_their_bounds(self):
        world = world_of(2, 2)
        map_pages(world, 1, 0, 1, "own", 2)
        write_cells(world, 0, 1, 0, [MOST, -MOST, 0, -1])
        self.assertEqual(read_cells(world, 1, 1, 0, 4), [MOST, -MOST, 0, -1])

    def test_lists_are_the_askers_own(self):
        world = world_of(2, 2)
        map_pages(world, 1, 0, 2, "own", 2)
        map_pages(world, 1, 2, 1, "shared", 2, "a", 0)
        numbers = [1, 2, 3, 4]
        for place in (0, 8):
            write_cells(world, 0, 1, place, numbers)
            numbers[0] = 9
            told = read_cells(world, 0, 1, place, 4)
            self.assertEqual(told, [1, 2, 3, 4])
            told[1] = 8
            told.append(7)
            self.assertEqual(read_cells(world, 0, 1, place, 4), [1, 2, 3, 4])
            told = read_cells(world, 0, 1, place, 4)
            write_cells(world, 0, 1, place, [5, 5, 5, 5])
            self.assertEqual(told, [1, 2, 3, 4])
            numbers = [1, 2, 3, 4]
        told = read_cells(world, 0, 1, 4, 4)
        told[0] = 6
        self.assertEqual(read_cells(world, 0, 1, 4, 4), [0, 0, 0, 0])


class RefusedTest(TouchesCase):
    def world(self):
        """Pages 0 to 9 to write, 10 to read, 11 for nothing, 12 not mapped, 13 of the file, room for 3 sheets."""
        world = world_of(2, 2, 2, 4)
        map_pages(world, 1, 0, 10, "own", 2)
        map_pages(world, 1, 10, 1, "own", 1)
        map_pages(world, 1, 11, 1, "own", 0)
        map_pages(world, 1, 13, 5, "shared", 2, "a", 0)
        map_pages(world, 1, 250, 6, "own", 2)
        read_cells(world, 0, 1, 52, 4)
        return world

    def test_a_number_beyond_its_bounds(self):
        world = self.world()
        for place, low, high in [(0, 0, 1), (2, 0, 1023), (3, 0, 64)]:
            for wrong in [low - 1, high + 1] + FAR + NO_NUMBERS:
                handed = [0, 1, 0, 1]
                handed[place] = wrong
                with self.subTest(place=place):
                    self.assert_refused(NoNumber, read_cells, world, *handed)
                    if place != 3:
                        handed[3] = [5]
                        self.assert_refused(NoNumber, write_cells, world, *handed)
                        handed[3] = []
                        self.assert_refused(NoNumber, write_cells, world, *handed)
                        handed[3] = 0
                        self.assert_refused(NoNumber, read_cells, world, *handed)

    def test_beyond_the_last_place(self):
        world = self.world()
        for place, many in [(1023, 2), (1020, 5), (1000, 25), (961, 64), (1023, 64)]:
            self.assert_refused(NoNumber, read_cells, world, 0, 1, place, many)
            self.assert_refused(NoNumber, write_cells, world, 0, 1, place, [1] * many)
        self.assert_refused(NoNumber, read_cells, world, 0, 1, 1024, 0)
        self.assert_refused(NoNumber, write_cells, world, 0, 1, 1024, [])

    def test_no_list_of_numbers(self):
        world = self.world()
        for wrong in [[1] * 65, [1] * 1000, (1, 2), (), "12", "", None, 1, 0, True, False, {}, {0: 1}]:
            self.assert_refused(NoNumber, write_cells, world, 0, 1, 52, wrong)

    def test_a_number_that_is_none_at_each_place(self):
        world = self.world()
        for wrong in [10 ** 60, -10 ** 60, 10 ** 5000, True, False, "1", "", None, [], [1], (1,), {}]:
            for many in (1, 3, 20):
                for at in range(many):
                    numbers = [7] * many
                    numbers[at] = wrong
                    self.assert_refused(NoNumber, write_cells, world, 0, 1, 52, numbers)

    def test_no_space(self):
        world = self.world()
        make_space(world)
        end_space(world, 2)
        for space in [0, -1, 2, 3] + FAR:
            for many in (0, 1, 4):
                self.assert_refused(NoSpace, read_cells, world, 0, space, 0, many)
                self.assert_refused(NoSpace, write_cells, world, 0, space, 0, [1] * many)

    def test_a_page_that_is_not_mapped_whichever_it_is(self):
        world = self.world()
        for place, many in [(48, 1), (51, 1), (48, 64), (50, 3), (51, 2), (52, 21), (52, 64), (71, 2), (996, 5),
                            (999, 2), (400, 1), (40, 12)]:
            self.assert_refused(NoPage, read_cells, world, 0, 1, place, many)
            self.assert_refused(NoPage, write_cells, world, 0, 1, place, [1] * many)

    def test_a_page_without_right_whichever_it_is(self):
        world = self.world()
        for place, many in [(44, 1), (47, 1), (40, 8), (43, 2), (36, 12)]:
            self.assert_refused(NoRight, read_cells, world, 0, 1, place, many)
        for place, many in [(40, 1), (43, 1), (39, 2), (36, 8), (36, 5), (44, 1), (43, 2), (32, 16)]:
            self.assert_refused(NoRight, write_cells, world, 0, 1, place, [1] * many)
        self.assertEqual(read_cells(world, 0, 1, 36, 8), [0] * 8)

    def test_rights_of_shared_pages(self):
        world = self.world()
        set_rights(world, 1, 14, 1, 1)
        set_rights(world, 1, 15, 1, 0)
        self.assert_refused(NoRight, write_cells, world, 0, 1, 52, [1] * 8)
        self.assert_refused(NoRight, read_cells, world, 0, 1, 52, 12)
        self.assertEqual(read_cells(world, 0, 1, 52, 8), file_rows(2)[0] + file_rows(2)[1])

    def test_more_sheets_than_there_is_room_for(self):
        world = self.world()
        self.assertEqual(told_room(world), 3)
        for place, many in [(0, 16), (0, 13), (3, 10), (20, 20), (1008, 16)]:
            self.assert_refused(Full, write_cells, world, 0, 1, place, [1] * many)
        write_cells(world, 0, 1, 3, [1] * 9)
        self.assertEqual(told_room(world), 0)
        # What has its sheet, and the pages of the file, need no room.
        write_cells(world, 0, 1, 0, [2] * 12)
        write_cells(world, 1, 1, 52, [3] * 20)
        for place, many in [(12, 1), (11, 2), (0, 13), (39, 1), (1023, 1)]:
            self.assert_refused(Full, write_cells, world, 0, 1, place, [1] * many)
        self.assertEqual(read_cells(world, 0, 1, 0, 16), [2] * 12 + [0] * 4)

    def test_full_for_sheets_of_several_holders(self):
        world = world_of(2, 3)
        map_pages(world, 1, 0, 4, "own", 2)
        write_cells(world, 0, 1, 0, [1] * 8)
        fork_space(world, 1)
        self.assertEqual(told_room(world), 2)
        self.assert_refused(Full, write_cells, world, 0, 1, 0, [2] * 9)
        self.assert_refused(Full, write_cells, world, 0, 2, 4, [2] * 12)
        write_cells(world, 0, 1, 0, [2] * 8)
        self.assertEqual(told_room(world), 0)
        write_cells(world, 0, 1, 0, [3] * 8)
        write_cells(world, 0, 2, 0, [4] * 8)
        self.assert_refused(Full, write_cells, world, 0, 1, 7, [5, 5])
        fork_space(world, 2)
        self.assert_refused(Full, write_cells, world, 0, 2, 0, [5])
        self.assert_refused(Full, write_cells, world, 0, 3, 4, [5])
        end_space(world, 3)
        write_cells(world, 0, 2, 0, [5])
        self.assertEqual(read_cells(world, 0, 2, 0, 8), [5] + [4] * 7)
        self.assertEqual(read_cells(world, 0, 1, 0, 8), [3] * 8)

    def test_no_room_at_all(self):
        world = world_of(1, 0)
        map_pages(world, 1, 0, 1, "own", 2)
        map_pages(world, 1, 1, 2, "own", 2, "a", 0)
        map_pages(world, 1, 3, 8, "shared", 2, "a", 0)
        for place in (0, 4, 8, 11):
            self.assert_refused(Full, write_cells, world, 0, 1, place, [1])
        for page in range(8):
            write_cells(world, 0, 1, 12 + 4 * page, [page])
        self.assertEqual(read_cells(world, 0, 1, 0, 12), [0] * 4 + [0] + file_rows(2)[0][1:] + [1] + file_rows(2)[1][1:])

    def test_the_first_of_several(self):
        world = self.world()
        write_cells(world, 0, 1, 0, [1] * 12)
        # From here on: no page mapped at 12, no right to write at 10 nor to read at 11, no room at 9.
        for refusal, handed in [
            (NoNumber, (2, 9, 48, [1])), (NoNumber, (0, 9, 1024, [1])), (NoNumber, (0, 9, 0, [None])),
            (NoNumber, (2, 1, 48, [1])), (NoNumber, (2, 1, 44, [1])), (NoNumber, (2, 1, 36, [1])),
            (NoNumber, (0, 1, 48, [1, True])), (NoNumber, (0, 1, 44, [10 ** 60])), (NoNumber, (0, 1, 36, (1,))),
            (NoNumber, (0, 1, 1023, [1, 1])), (NoNumber, (0, 1, 0, [1] * 65)), (NoNumber, (0, 9, 0, [1] * 65)),
            (NoSpace, (0, 9, 48, [1])), (NoSpace, (0, 9, 36, [])),
            (NoPage, (0, 1, 40, [1] * 9)), (NoPage, (0, 1, 44, [1] * 5)), (NoPage, (0, 1, 36, [1] * 13)),
            (NoPage, (0, 1, 12, [1] * 64)), (NoPage, (0, 1, 996, [1] * 5)),
            (NoRight, (0, 1, 36, [1] * 5)), (NoRight, (0, 1, 12, [1] * 36)), (NoRight, (0, 1, 40, [1])),
            (Full, (0, 1, 36, [1])), (Full, (0, 1, 0, [1] * 13)),
        ]:
            with self.subTest(handed=handed):
                self.assert_refused(refusal, write_cells, world, *handed)
        for refusal, handed in [
            (NoNumber, (2, 9, 48, 1)), (NoNumber, (0, 9, -1, 1)), (NoNumber, (0, 9, 0, 65)),
            (NoNumber, (2, 1, 48, 1)), (NoNumber, (0, 1, 48, 65)), (NoNumber, (-1, 1, 44, 1)),
            (NoNumber, (0, 1, 1000, 25)), (NoNumber, (0, 1, 44, True)),
            (NoSpace, (0, 9, 48, 1)), (NoSpace, (0, 9, 48, 0)),
            (NoPage, (0, 1, 44, 5)), (NoPage, (0, 1, 36, 20)), (NoRight, (0, 1, 36, 9)),
        ]:
            with self.subTest(handed=handed):
                self.assert_refused(refusal, read_cells, world, *handed)


class PageTest(TouchesCase):
    """Point 30, and the copies of point 33."""

    def test_a_blank_page_read_is_a_walk_and_nothing_else(self):
        world = world_of(2, 2)
        map_pages(world, 1, 0, 3, "own", 2)
        before = seen(world)
        for times in (1, 2):
            self.assertEqual(read_cells(world, 1, 1, 1, 2), [0, 0])
            self.assert_changed(world, before, walks=[0, times])
        self.assertEqual(read_cells(world, 0, 1, 3, 9), [0] * 9)
        self.assert_changed(world, before, walks=[3, 2])

    def test_a_blank_page_first_written_is_no_copy(self):
        world = world_of(2, 2)
        map_pages(world, 1, 0, 3, "own", 2)
        before = seen(world)
        write_cells(world, 0, 1, 5, [7, 8])
        self.assert_changed(
            world, before, ways={1: [(1, 1)]}, holders={0: 0, 1: 1, 2: 0, 3: 0}, frames=[own(1), None],
            marks=[True, False], books=[[(1, 1, 0, 2)], []], walks=[1, 0], room=2, rows={own(1): [0, 7, 8, 0]},
            soiled=[True, False])

    def test_a_page_of_a_file_follows_it_until_it_is_written(self):
        world = world_of(3, 3, spaces=2)
        map_pages(world, 1, 0, 2, "own", 2, "a", 4)
        map_pages(world, 2, 0, 2, "shared", 2, "a", 4)
        self.assertEqual(read_cells(world, 0, 1, 0, 4), [104, 204, 304, 404])
        write_cells(world, 1, 2, 1, [9])
        self.assertEqual(read_cells(world, 0, 1, 0, 4), [104, 9, 304, 404])
        write_cells(world, 0, 1, 2, [8])
        self.assertEqual(told_copies(world), 1)
        self.assertEqual(told_ways(world, 1), [(0, 1)])
        self.assertEqual(read_cells(world, 0, 1, 0, 4), [104, 9, 8, 404])
        self.assertEqual(read_cells(world, 0, 2, 0, 4), [104, 9, 304, 404])
        write_cells(world, 1, 2, 0, [1, 2, 3, 4])
        self.assertEqual(read_cells(world, 0, 1, 0, 4), [104, 9, 8, 404])
        self.assertEqual(told_file(world, "a")[4], [1, 2, 3, 4])
        write_cells(world, 1, 1, 0, [7])
        self.assertEqual(told_copies(world), 1)
        self.assertEqual(told_file(world, "a")[4], [1, 2, 3, 4])
        # The other page of the stretch is the file's as before.
        write_cells(world, 1, 2, 4, [6])
        self.assertEqual(read_cells(world, 0, 1, 4, 1), [6])

    def test_the_first_write_brings_no_page_of_the_file(self):
        world = world_of(3, 3)
        map_pages(world, 1, 0, 2, "own", 2, "a", 6)
        before = seen(world)
        write_cells(world, 0, 1, 3, [5])
        self.assert_changed(
            world, before, ways={1: [(0, 1)]}, holders={0: 0, 1: 1, 2: 0, 3: 0}, frames=[own(1), None, None],
            marks=[True, False, False], books=[[(1, 0, 0, 2)], []], walks=[1, 0], copies=1, room=4,
            rows={own(1): [106, 206, 306, 5]}, soiled=[True, False, False])

    def test_a_shared_page_is_seen_by_all_who_share_it(self):
        for many in (1, 2, 4):
            world = world_of(many, 3, 3, 4, spaces=3)
            map_pages(world, 1, 0, 8, "shared", 2, "a", 0)
            map_pages(world, 2, 100, 4, "shared", 2, "a", 4)
            map_pages(world, 3, 7, 1, "shared", 1, "a", 4)
            map_pages(world, 3, 8, 1, "own", 1, "a", 4)
            for step, (hand, space, place) in enumerate([(0, 1, 16), (1, 2, 400), (2, 1, 16), (0, 2, 400)]):
                write_cells(world, hand, space, place + step % 3, [50 + step])
                row = told_file(world, "a")[4]
                self.assertEqual(row[step % 3], 50 + step)
                for one in range(3):
                    self.assertEqual(read_cells(world, one, 1, 16, 4), row)
                    self.assertEqual(read_cells(world, one, 2, 400, 4), row)
                    self.assertEqual(read_cells(world, one, 3, 28, 8), row + row)
            self.assertEqual((told_copies(world), told_room(world)), (0, many + 2))
            fork_space(world, 2)
            write_cells(world, 1, 4, 400, [1, 2, 3, 4])
            self.assertEqual(read_cells(world, 2, 1, 16, 4), [1, 2, 3, 4])

    def test_two_pages_of_one_space_share_a_page_of_a_file(self):
        world = world_of(1, 0)
        map_pages(world, 1, 0, 1, "shared", 2, "a", 3)
        map_pages(world, 1, 9, 1, "shared", 2, "a", 3)
        write_cells(world, 0, 1, 37, [5])
        self.assertEqual(read_cells(world, 1, 1, 0, 4), [103, 5, 303, 403])

    def test_a_sheet_of_several_holders_is_copied_for_each_but_the_last(self):
        for many, places in [(1, 6), (2, 5), (7, 0)]:
            world = world_of(many, places)
            map_pages(world, 1, 0, 2, "own", 2)
            write_cells(world, 0, 1, 0, [1, 2, 3, 4])
            for space in (2, 3):
                fork_space(world, 1)
            self.assertEqual(told_holders(world, 1), 3)
            for times, space in enumerate((2, 1, 3), start=1):
                write_cells(world, space % 2, space, space, [90 + space])
                self.assertEqual(told_copies(world), min(times, 2))
                self.assertEqual(told_holders(world, 1), max(3 - times, 1))
            self.assertEqual([told_ways(world, space) for space in (1, 2, 3)], [[(0, 3)], [(0, 2)], [(0, 1)]])
            self.assertEqual(read_cells(world, 0, 1, 0, 4), [1, 91, 3, 4])
            self.assertEqual(read_cells(world, 0, 2, 0, 4), [1, 2, 92, 4])
            self.assertEqual(read_cells(world, 0, 3, 0, 4), [1, 2, 3, 93])
            for space in (1, 2, 3):
                write_cells(world, 1, space, 0, [70 + space])
            self.assertEqual(told_copies(world), 2)
            self.assertEqual([read_cells(world, 1, space, 0, 1) for space in (1, 2, 3)], [[71], [72], [73]])

    def test_the_last_holder_behind_an_ended_one(self):
        for old, left in [(1, 2), (2, 1)]:
            world = world_of(2, 3)
            map_pages(world, 1, 0, 1, "own", 2)
            write_cells(world, 0, 1, 0, [1, 2, 3, 4])
            fork_space(world, 1)
            end_space(world, old)
            write_cells(world, 0, left, 0, [5])
            self.assertEqual((told_copies(world), told_ways(world, left)), (0, [(0, 1)]))

    def test_a_page_no_one_had_written_is_each_ones_own_behind_a_fork(self):
        world = world_of(2, 4)
        map_pages(world, 1, 0, 2, "own", 2)
        map_pages(world, 1, 2, 1, "own", 2, "a", 0)
        fork_space(world, 1)
        write_cells(world, 0, 1, 0, [5])
        write_cells(world, 0, 2, 8, [6])
        self.assertEqual(read_cells(world, 0, 1, 0, 12), [5] + [0] * 7 + file_rows(1)[0])
        self.assertEqual(read_cells(world, 0, 2, 0, 12), [0] * 8 + [6] + file_rows(1)[0][1:])
        self.assertEqual(told_copies(world), 1)

    def test_what_nobody_writes_is_copied_for_nobody(self):
        world = world_of(2, 8)
        map_pages(world, 1, 0, 4, "own", 2, "a", 0)
        map_pages(world, 1, 4, 4, "own", 2)
        write_cells(world, 0, 1, 16, [1] * 16)
        fork_space(world, 1)
        for space in (1, 2):
            for hand in (0, 1):
                read_cells(world, hand, space, 0, 32)
        self.assertEqual((told_copies(world), told_room(world)), (0, 5))


class LaterPartTest(TouchesCase):
    """A later part of a deed sees what an earlier one wrote."""

    def test_of_a_page_shared_twice(self):
        for many in (1, 2):
            world = world_of(many, 2)
            map_pages(world, 1, 0, 1, "shared", 2, "a", 0)
            map_pages(world, 1, 1, 1, "shared", 2, "a", 0)
            write_cells(world, 0, 1, 2, [7, 8, 9])
            self.assertEqual(told_file(world, "a")[0], [9, 200, 7, 8])
            write_cells(world, 0, 1, 0, [1, 2, 3, 4, 5])
            self.assertEqual(told_file(world, "a")[0], [5, 2, 3, 4])
            self.assertEqual(read_cells(world, 1, 1, 0, 8), [5, 2, 3, 4] * 2)

    def test_of_a_page_of_its_own_behind_a_shared_one(self):
        for many in (1, 2):
            world = world_of(many, 2)
            map_pages(world, 1, 0, 1, "shared", 2, "a", 0)
            map_pages(world, 1, 1, 1, "own", 2, "a", 0)
            write_cells(world, 0, 1, 2, [7, 8, 9])
            self.assertEqual(told_file(world, "a")[0], [100, 200, 7, 8])
            self.assertEqual(read_cells(world, 0, 1, 4, 4), [9, 200, 7, 8])

    def test_of_a_shared_page_behind_its_own(self):
        world = world_of(2, 2)
        map_pages(world, 1, 0, 1, "own", 2, "a", 0)
        map_pages(world, 1, 1, 1, "shared", 2, "a", 0)
        write_cells(world, 0, 1, 2, [7, 8, 9])
        self.assertEqual(read_cells(world, 0, 1, 0, 8), [100, 200, 7, 8, 9, 200, 300, 400])


class StepsTest(TouchesCase):
    """Books, walks, frames, marks, pointer and shelf behind each part."""

    def assert_steps(self, world, steps):
        for at, (deed, handed, wanted) in enumerate(steps):
            with self.subTest(step=at):
                deed(world, *handed)
                self.assert_told(world, **wanted)

    def test_marks_of_ways(self):
        world = world_of(3, 3)
        map_pages(world, 1, 0, 2, "own", 2)
        map_pages(world, 1, 2, 1, "shared", 2, "a", 5)
        self.assert_steps(world, [
            (write_cells, (0, 1, 0, [1]), {"books": [[(1, 0, 0, 2)], []], "walks": [1, 0]}),
            # Found to write, so it is there to write and to read again.
            (write_cells, (0, 1, 1, [1]), {"books": [[(1, 0, 0, 2)], []], "walks": [1, 0]}),
            (read_cells, (0, 1, 1, 2), {"books": [[(1, 0, 0, 2)], []], "walks": [1, 0]}),
            (read_cells, (1, 1, 0, 1), {"books": [[(1, 0, 0, 2)], [(1, 0, 0, 1)]], "walks": [1, 1]}),
            (read_cells, (1, 1, 8, 4), {"books": [[(1, 0, 0, 2)], [(1, 0, 0, 1), (1, 2, 1, 1)]], "walks": [1, 2]}),
            # Found to read is not enough to write: it walks, and the way is the newest then.
            (write_cells, (1, 1, 0, [5]), {"books": [[(1, 0, 0, 2)], [(1, 2, 1, 1), (1, 0, 0, 2)]], "walks": [1, 3]}),
            (write_cells, (1, 1, 8, [5]), {"books": [[(1, 0, 0, 2)], [(1, 0, 0, 2), (1, 2, 1, 2)]], "walks": [1, 4]}),
            # A way that is used is no newer for it.
            (read_cells, (1, 1, 0, 1), {"books": [[(1, 0, 0, 2)], [(1, 0, 0, 2), (1, 2, 1, 2)]], "walks": [1, 4]}),
            (read_cells, (0, 1, 4, 1), {"books": [[(1, 0, 0, 2)], [(1, 0, 0, 2), (1, 2, 1, 2)]], "walks": [2, 4]}),
            (read_cells, (0, 1, 0, 12), {"books": [[(1, 0, 0, 2), (1, 2, 1, 1)], [(1, 0, 0, 2), (1, 2, 1, 2)]],
                                         "walks": [4, 4]}),
        ])

    def test_one_frame(self):
        world = world_of(1, 2)
        map_pages(world, 1, 0, 3, "own", 2)
        map_pages(world, 1, 3, 1, "shared", 2, "a", 5)
        self.assert_steps(world, [
            (write_cells, (0, 1, 0, [1]), {
                "frames": [own(1)], "shelf": [None, None], "marks": [True], "pointer": 0, "walks": [1, 0],
                "books": [[(1, 0, 0, 2)], []], "soiled": [True]}),
            (write_cells, (1, 1, 4, [2]), {
                "frames": [own(2)], "shelf": [1, None], "marks": [True], "pointer": 0, "walks": [1, 1],
                "books": [[], [(1, 1, 0, 2)]], "room": 0}),
            (read_cells, (0, 1, 12, 1), {
                "frames": [of_file(5)], "shelf": [1, 2], "marks": [True], "walks": [2, 1],
                "books": [[(1, 3, 0, 1)], []], "soiled": [False]}),
            (write_cells, (0, 1, 12, [9]), {
                "frames": [of_file(5)], "walks": [3, 1], "books": [[(1, 3, 0, 2)], []], "soiled": [True]}),
            # Both places are taken: sheet 2 comes, the file's page is stored, and place 1 is free.
            (read_cells, (1, 1, 4, 4), {
                "frames": [own(2)], "shelf": [1, None], "walks": [3, 2], "books": [[], [(1, 1, 0, 1)]],
                "soiled": [False]}),
            (read_cells, (1, 1, 0, 4), {
                "frames": [own(1)], "shelf": [2, None], "walks": [3, 3], "books": [[], [(1, 0, 0, 1)]]}),
            (read_cells, (1, 1, 0, 12), {
                "frames": [own(2)], "shelf": [1, None], "walks": [3, 5], "books": [[], [(1, 1, 0, 1)]]}),
        ])
        self.assertEqual(world.store.files.row_at("a", 5), [9, 205, 305, 405])
        self.assertEqual(read_cells(world, 0, 1, 0, 16), [1, 0, 0, 0, 2, 0, 0, 0, 0, 0, 0, 0, 9, 205, 305, 405])

    def test_the_dial_over_three_frames(self):
        world = world_of(3, 2)
        map_pages(world, 1, 0, 8, "shared", 2, "a", 0)
        self.assert_steps(world, [
            (read_cells, (0, 1, 0, 12), {
                "frames": [of_file(0), of_file(1), of_file(2)], "marks": [True, True, True], "pointer": 0,
                "books": [[(1, 0, 0, 1), (1, 1, 1, 1), (1, 2, 2, 1)], []], "walks": [3, 0]}),
            # All have the mark: the dial goes round once, takes all of them, and frame 0 goes.
            (read_cells, (1, 1, 12, 1), {
                "frames": [of_file(3), of_file(1), of_file(2)], "marks": [True, False, False], "pointer": 1,
                "books": [[(1, 1, 1, 1), (1, 2, 2, 1)], [(1, 3, 0, 1)]], "walks": [3, 1]}),
            # By a way of the book frame 1 is touched, so 2 goes.
            (read_cells, (0, 1, 4, 1), {
                "frames": [of_file(3), of_file(1), of_file(2)], "marks": [True, True, False], "pointer": 1,
                "walks": [3, 1]}),
            (write_cells, (1, 1, 16, [7]), {
                "frames": [of_file(3), of_file(1), of_file(4)], "marks": [True, False, True], "pointer": 0,
                "books": [[(1, 1, 1, 1)], [(1, 3, 0, 1), (1, 4, 2, 2)]], "walks": [3, 2]}),
            # Frame 0 has the mark, 1 has none.
            (read_cells, (0, 1, 0, 1), {
                "frames": [of_file(3), of_file(0), of_file(4)], "marks": [False, True, True], "pointer": 2,
                "books": [[(1, 0, 1, 1)], [(1, 3, 0, 1), (1, 4, 2, 2)]], "walks": [4, 2]}),
            # Frame 2 has the mark, 0 has none: its way is struck from the other hand's book.
            (read_cells, (0, 1, 20, 1), {
                "frames": [of_file(5), of_file(0), of_file(4)], "marks": [True, True, False], "pointer": 1,
                "books": [[(1, 0, 1, 1), (1, 5, 0, 1)], [(1, 4, 2, 2)]], "walks": [5, 2]}),
        ])

    def test_a_copy(self):
        world = world_of(3, 3, 3, 4)
        map_pages(world, 1, 0, 2, "own", 2)
        write_cells(world, 0, 1, 0, [1, 2, 3, 4])
        fork_space(world, 1)
        self.assert_steps(world, [
            (read_cells, (0, 1, 0, 1), {"books": [[(1, 0, 0, 1)], [], []], "walks": [2, 0, 0]}),
            (read_cells, (1, 1, 0, 1), {"books": [[(1, 0, 0, 1)], [(1, 0, 0, 1)], []], "walks": [2, 1, 0]}),
            (read_cells, (2, 2, 0, 1), {
                "books": [[(1, 0, 0, 1)], [(1, 0, 0, 1)], [(2, 0, 0, 1)]], "walks": [2, 1, 1]}),
            # The ways of space 1 to the old sheet are struck from all books, the other space's stays.
            (write_cells, (0, 1, 1, [9]), {
                "books": [[(1, 0, 1, 2)], [], [(2, 0, 0, 1)]], "walks": [3, 1, 1], "copies": 1,
                "frames": [own(1), own(2), None], "ways": {1: [(0, 2)], 2: [(0, 1)]}, "marks": [True, True, False],
                "holders": {0: 0, 1: 1, 2: 1, 3: 0, 4: 0}, "room": 3,
                "rows": {own(1): [1, 2, 3, 4], own(2): [1, 9, 3, 4]}}),
            (read_cells, (1, 1, 0, 4), {
                "books": [[(1, 0, 1, 2)], [(1, 0, 1, 1)], [(2, 0, 0, 1)]], "walks": [3, 2, 1]}),
            (write_cells, (2, 2, 0, [8]), {
                "books": [[(1, 0, 1, 2)], [(1, 0, 1, 1)], [(2, 0, 0, 2)]], "walks": [3, 2, 2], "copies": 1,
                "ways": {1: [(0, 2)], 2: [(0, 1)]}}),
        ])

    def test_a_copy_for_which_the_old_sheet_is_put_out(self):
        world = world_of(1, 2)
        map_pages(world, 1, 0, 1, "own", 2)
        write_cells(world, 0, 1, 0, [1, 2, 3, 4])
        fork_space(world, 1)
        read_cells(world, 1, 2, 0, 1)
        write_cells(world, 0, 1, 1, [9])
        self.assert_told(world, frames=[own(2)], shelf=[1, None], books=[[(1, 0, 0, 2)], []], copies=1, room=0,
                         rows={own(2): [1, 9, 3, 4], own(1): [1, 2, 3, 4]})

    def test_a_copy_of_a_sheet_that_lies_on_the_shelf(self):
        world = world_of(2, 4)
        map_pages(world, 1, 0, 3, "own", 2)
        write_cells(world, 0, 1, 0, [1, 2, 3, 4, 5, 6, 7, 8, 9])
        fork_space(world, 1)
        self.assert_told(world, frames=[own(3), own(2)], shelf=[1, None, None, None], marks=[True, False], pointer=1)
        write_cells(world, 0, 2, 0, [0])
        self.assert_told(world, frames=[own(3), own(4)], shelf=[1, 2, None, None], marks=[True, True], pointer=0,
                         ways={1: [(0, 1), (1, 2), (2, 3)], 2: [(0, 4), (1, 2), (2, 3)]}, copies=1)
        self.assertEqual(read_cells(world, 0, 2, 0, 9), [0, 2, 3, 4, 5, 6, 7, 8, 9])
        self.assertEqual(read_cells(world, 0, 1, 0, 9), [1, 2, 3, 4, 5, 6, 7, 8, 9])

    def test_a_page_of_a_file_copied_while_others_read_it(self):
        world = world_of(3, 3, 2, 4, spaces=2)
        for space in (1, 2):
            map_pages(world, space, 0, 1, "own", 2, "a", 0)
        for hand in (0, 1):
            for space in (1, 2):
                read_cells(world, hand, space, 0, 4)
        write_cells(world, 1, 1, 0, [9])
        self.assert_told(world, books=[[(2, 0, 0, 1)], [(2, 0, 0, 1), (1, 0, 1, 2)]], walks=[2, 3],
                         frames=[of_file(0), own(1), None], copies=1)
        self.assertEqual(read_cells(world, 0, 1, 0, 4), [9, 200, 300, 400])
        self.assertEqual(read_cells(world, 0, 2, 0, 4), [100, 200, 300, 400])

    def test_a_frame_filled_anew_while_a_book_has_a_way_to_it(self):
        world = world_of(1, 4)
        map_pages(world, 1, 0, 2, "own", 2)
        write_cells(world, 0, 1, 0, [1, 2, 3, 4])
        write_cells(world, 1, 1, 4, [5, 6, 7, 8])
        self.assertEqual(told_book(world, 0), [])
        self.assertEqual(read_cells(world, 0, 1, 0, 4), [1, 2, 3, 4])
        self.assertEqual(told_book(world, 1), [])
        write_cells(world, 1, 1, 5, [0])
        self.assertEqual(read_cells(world, 0, 1, 0, 8), [1, 2, 3, 4, 5, 0, 7, 8])

    def test_more_ways_than_slots(self):
        world = world_of(8, 8, 2, 2)
        map_pages(world, 1, 0, 8, "own", 2)
        write_cells(world, 0, 1, 0, [1] * 12)
        self.assert_told(world, books=[[(1, 1, 1, 2), (1, 2, 2, 2)], []], walks=[3, 0])
        read_cells(world, 0, 1, 4, 8)
        self.assert_told(world, books=[[(1, 1, 1, 2), (1, 2, 2, 2)], []], walks=[3, 0])
        read_cells(world, 0, 1, 0, 12)
        self.assert_told(world, books=[[(1, 1, 1, 1), (1, 2, 2, 1)], []], walks=[6, 0])

    def test_books_of_no_slots(self):
        world = world_of(3, 3, 2, 0)
        map_pages(world, 1, 0, 4, "own", 2)
        for times in (1, 2, 3):
            write_cells(world, 0, 1, 0, [times] * 8)
            self.assert_told(world, books=[[], []], walks=[4 * times - 2, 0], frames=[own(1), own(2), None])
            self.assertEqual(read_cells(world, 0, 1, 0, 8), [times] * 8)
            self.assert_told(world, books=[[], []], walks=[4 * times, 0])

    def test_each_hand_has_its_own(self):
        world = world_of(3, 3, 8, 16)
        map_pages(world, 1, 0, 1, "shared", 2, "a", 0)
        for hand in range(8):
            for times in range(3):
                read_cells(world, hand, 1, 0, 1)
            self.assertEqual([told_walks(world, one) for one in range(8)], [1] * (hand + 1) + [0] * (7 - hand))
            self.assertEqual([told_book(world, one) for one in range(8)],
                             [[(1, 0, 0, 1)]] * (hand + 1) + [[]] * (7 - hand))

    def test_touched_through_the_book_too(self):
        world = world_of(2, 2)
        map_pages(world, 1, 0, 2, "shared", 2, "a", 0)
        read_cells(world, 0, 1, 0, 8)
        for frame in (0, 1):
            world.store.dial.clear(frame)
        read_cells(world, 0, 1, 4, 1)
        self.assertEqual(told_marks(world), [False, True])
        write_cells(world, 0, 1, 0, [1])
        write_cells(world, 0, 1, 4, [1])
        for frame in (0, 1):
            world.store.dial.clear(frame)
        write_cells(world, 0, 1, 0, [1])
        self.assertEqual(told_marks(world), [True, False])
        self.assertEqual(told_pointer(world), 0)

    def test_a_way_behind_other_rights_is_found_anew(self):
        world = world_of(2, 2)
        map_pages(world, 1, 0, 1, "own", 2)
        write_cells(world, 0, 1, 0, [1])
        set_rights(world, 1, 0, 1, 2)
        write_cells(world, 0, 1, 0, [2])
        self.assert_told(world, books=[[(1, 0, 0, 2)], []], walks=[2, 0], ways={1: [(0, 1)]})

    def test_told_lists_of_a_world_in_use_are_the_askers_own(self):
        world = world_of(2, 2)
        map_pages(world, 1, 0, 3, "own", 2)
        write_cells(world, 0, 1, 0, [1] * 12)
        # Copied: what is told may not be kept by the world, else it would change along with it.
        before = copy.deepcopy(seen(world))
        for asked in (told_frames, told_marks, told_shelf, lambda one: told_book(one, 0),
                      lambda one: told_ways(one, 1), lambda one: told_plan(one, 1), told_spaces):
            asked(world).clear()
            asked(world).append(9)
            asked(world)[0] = 8
        self.assert_changed(world, before)
        frames = told_frames(world)
        ways = told_ways(world, 1)
        unmap_pages(world, 1, 0, 3)
        self.assertEqual(frames, before["frames"])
        self.assertEqual(ways, before["ways"][1])


if __name__ == "__main__":
    unittest.main()
