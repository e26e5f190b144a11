import inspect
import unittest

from helper import seen
from paneworks import spaces as module
from paneworks.errors import NoSpace
from paneworks.maps import make_file, map_pages, unmap_pages
from paneworks.places import is_whole
from paneworks.spaces import end_space, fork_space, make_space
from paneworks.touches import read_cells, write_cells
from paneworks.world import (
    World, told_book, told_copies, told_frames, told_holders, told_plan, told_room, told_shelf, told_spaces, told_ways)

ARGUMENTS = {"make_space": ["world"], "fork_space": ["world", "space"], "end_space": ["world", "space"]}
STRETCHES = [(0, 1, "own", 2, None, 0), (7, 9, "shared", 1, "a", 3), (200, 56, "own", 2, "a", 0)]


def world_with_ways():
    """Spaces 1 and 2 with a plan, with sheets 1 to 3 and 4 to 5, and ways of both in the books of three hands."""
    world = World(4, 3, 3, 4)
    make_file(world, "a", [[1, 2, 3, 4]] * 64)
    for space in (1, 2):
        make_space(world)
        for stretch in STRETCHES:
            map_pages(world, space, *stretch)
    for hand, space, page in [(0, 1, 0), (0, 1, 200), (0, 1, 255), (1, 2, 0), (1, 2, 210)]:
        write_cells(world, hand, space, 4 * page, [page, space])
    # Behind these sheets 3, 4 and 5 are in frames, 1 and 2 on the shelf, and each hand has ways of both spaces.
    for hand in range(3):
        for space in (1, 2):
            read_cells(world, hand, space, 28, 1)
    for hand, space, page in [(0, 1, 255), (1, 2, 0), (2, 2, 0), (2, 1, 255)]:
        read_cells(world, hand, space, 4 * page, 1)
    return world


class SpacesCase(unittest.TestCase):
    def assert_whole(self, told, wanted):
        self.assertEqual(told, wanted)
        self.assertIs(is_whole(told), True)

    def assert_refused(self, refusal, deed, world, *handed):
        before = seen(world)
        with self.assertRaises(refusal) as caught:
            deed(world, *handed)
        self.assertIs(caught.exception.__class__, refusal)
        self.assertEqual(seen(world), before)

    def assert_changed(self, world, before, **changes):
        """All is as before but for what is told here."""
        wanted = dict(before)
        wanted.update(changes)
        self.assertEqual(seen(world), wanted)

    def assert_counted(self, world):
        """The holders are those of walking all tables."""
        sheets = [sheet for space in told_spaces(world) for page, sheet in told_ways(world, space)]
        self.assertEqual([told_holders(world, sheet) for sheet in range(20)],
                         [sheets.count(sheet) for sheet in range(20)])


class InterfaceTest(unittest.TestCase):
    def test_names_and_arguments(self):
        for name, arguments in ARGUMENTS.items():
            with self.subTest(name=name):
                self.assertEqual(list(inspect.signature(getattr(module, name)).parameters), arguments)


class NumberTest(SpacesCase):
    def test_as_they_are_made_or_forked(self):
        world = World(2, 2, 1, 2)
        self.assert_whole(make_space(world), 1)
        self.assert_whole(make_space(world), 2)
        self.assert_whole(fork_space(world, 1), 3)
        self.assertEqual(told_spaces(world), [1, 2, 3])
        end_space(world, 2)
        self.assert_whole(make_space(world), 4)
        self.assert_whole(fork_space(world, 4), 5)
        self.assertEqual(told_spaces(world), [1, 3, 4, 5])

    def test_no_number_twice(self):
        world = World(1, 0, 1, 0)
        for number in range(1, 101):
            self.assert_whole(make_space(world) if number % 2 else fork_space(world, number - 1), number)
            if number % 2 == 0:
                end_space(world, number)
                end_space(world, number - 1)
            else:
                self.assertEqual(told_spaces(world), [number])
        self.assertEqual(told_spaces(world), [])

    def test_a_refused_fork_uses_up_none(self):
        world = World(1, 0, 1, 0)
        self.assert_refused(NoSpace, fork_space, world, 1)
        self.assert_whole(make_space(world), 1)
        self.assert_refused(NoSpace, fork_space, world, 2)
        self.assert_whole(fork_space(world, 1), 2)

    def test_many_live_at_once(self):
        world = World(1, 0, 1, 0)
        for number in range(1, 301):
            make_space(world)
        self.assertEqual(told_spaces(world), list(range(1, 301)))

    def test_a_new_space_is_without_stretch_and_way(self):
        world = world_with_ways()
        before = seen(world)
        self.assert_whole(make_space(world), 3)
        self.assert_changed(world, before, spaces=[1, 2, 3], plans={**before["plans"], 3: []},
                            ways={**before["ways"], 3: []})


class NoSpaceTest(SpacesCase):
    def test_numbers_by_which_no_space_lives(self):
        for deed in (fork_space, end_space, told_plan, told_ways):
            world = world_with_ways()
            fork_space(world, 2)
            end_space(world, 1)
            for space in [0, -1, -10 ** 80, 1, 4, 5, 10 ** 5000]:
                self.assert_refused(NoSpace, deed, world, space)
            self.assert_refused(NoSpace, deed, World(1, 0, 1, 0), 1)


class ForkTest(SpacesCase):
    def assert_forked(self, world, old, new):
        before = seen(world)
        self.assert_whole(fork_space(world, old), new)
        held = [sheet for page, sheet in before["ways"][old]]
        self.assert_changed(
            world, before, spaces=before["spaces"] + [new], plans={**before["plans"], new: before["plans"][old]},
            ways={**before["ways"], new: before["ways"][old]},
            holders={sheet: count + (sheet in held) for sheet, count in before["holders"].items()},
            books=[[way for way in ways if way[0] != old] for ways in before["books"]])
        self.assert_counted(world)

    def test_the_same_plan_and_ways_and_nothing_else(self):
        for old in (1, 2):
            world = world_with_ways()
            for book in seen(world)["books"]:
                self.assertEqual({way[0] for way in book}, {1, 2})
            self.assert_forked(world, old, 3)
            self.assertEqual(told_plan(world, 3), STRETCHES)

    def test_of_a_fork_and_again(self):
        world = world_with_ways()
        self.assert_forked(world, 1, 3)
        self.assert_forked(world, 3, 4)
        self.assert_forked(world, 1, 5)
        self.assertEqual([told_holders(world, sheet) for sheet in range(7)], [0, 4, 4, 4, 1, 1, 0])
        for space in (3, 4, 5):
            self.assertEqual(told_plan(world, space), STRETCHES)
            self.assertEqual(told_ways(world, space), [(0, 1), (200, 2), (255, 3)])

    def test_of_a_space_without_pages(self):
        world = world_with_ways()
        make_space(world)
        self.assert_forked(world, 3, 4)

    def test_with_no_room(self):
        world = world_with_ways()
        write_cells(world, 0, 1, 804, [1])
        self.assertEqual(told_room(world), 0)
        self.assert_forked(world, 1, 3)

    def test_the_two_are_apart_then(self):
        world = world_with_ways()
        fork_space(world, 1)
        unmap_pages(world, 1, 200, 1)
        unmap_pages(world, 1, 7, 9)
        self.assertEqual(told_ways(world, 3), [(0, 1), (200, 2), (255, 3)])
        self.assertEqual(told_plan(world, 3), STRETCHES)
        map_pages(world, 3, 1, 1, "own", 2)
        write_cells(world, 0, 3, 4, [1])
        self.assertEqual(told_ways(world, 1), [(0, 1), (255, 3)])
        self.assertEqual(told_plan(world, 1), [STRETCHES[0], (201, 55, "own", 2, "a", 1)])

    def test_what_is_written_then(self):
        world = world_with_ways()
        fork_space(world, 1)
        # A way found to write ahead of the fork must not be used behind it.
        write_cells(world, 0, 1, 1020, [77])
        self.assertEqual(read_cells(world, 1, 3, 1020, 4), [255, 1, 3, 4])
        self.assertEqual(read_cells(world, 1, 1, 1020, 4), [77, 1, 3, 4])
        self.assertEqual(told_copies(world), 4)


class EndTest(SpacesCase):
    def assert_ended(self, world, old):
        before = seen(world)
        end_space(world, old)
        less = [sheet for page, sheet in before["ways"][old]]
        holders = {sheet: count - (sheet in less) for sheet, count in before["holders"].items()}
        gone = [("own", sheet) for sheet in less if holders[sheet] == 0]
        kept = [thing not in gone for thing in before["frames"]]
        self.assertEqual([told_holders(world, sheet) for sheet in holders], list(holders.values()))
        self.assert_changed(
            world, before, spaces=[space for space in before["spaces"] if space != old],
            plans={space: plan for space, plan in before["plans"].items() if space != old},
            ways={space: ways for space, ways in before["ways"].items() if space != old},
            holders=seen(world)["holders"],
            frames=[thing if kept[frame] else None for frame, thing in enumerate(before["frames"])],
            marks=[mark and kept[frame] for frame, mark in enumerate(before["marks"])],
            soiled=[soiled and kept[frame] for frame, soiled in enumerate(before["soiled"])],
            rows={thing: row for thing, row in before["rows"].items() if thing not in gone},
            shelf=[None if ("own", sheet) in gone else sheet for sheet in before["shelf"]],
            books=[[way for way in ways if way[0] != old] for ways in before["books"]],
            room=before["room"] + len(gone))
        self.assert_counted(world)
        return len(gone)

    def test_its_sheets_and_ways_go(self):
        for old, gone in [(1, 3), (2, 2)]:
            self.assertEqual(self.assert_ended(world_with_ways(), old), gone)

    def test_sheets_with_other_holders_stay(self):
        for old in (1, 3):
            world = world_with_ways()
            fork_space(world, 1)
            for hand in range(3):
                read_cells(world, hand, 1, 28, 1)
                read_cells(world, hand, 3, 28, 1)
            self.assertEqual(self.assert_ended(world, old), 0)
            self.assertEqual(self.assert_ended(world, 4 - old), 3)

    def test_of_all_spaces(self):
        world = world_with_ways()
        fork_space(world, 2)
        fork_space(world, 1)
        for space in (2, 1, 4, 3):
            self.assert_ended(world, space)
        self.assertEqual(told_spaces(world), [])
        self.assertEqual(told_frames(world), [None, ("file", "a", 3), None, None])
        self.assertEqual(told_shelf(world), [None] * 3)
        self.assertEqual(told_room(world), 6)
        self.assertEqual([told_book(world, hand) for hand in range(3)], [[], [], []])

    def test_of_a_space_without_pages(self):
        world = world_with_ways()
        make_space(world)
        self.assertEqual(self.assert_ended(world, 3), 0)


class ApartTest(SpacesCase):
    def test_two_worlds(self):
        one = world_with_ways()
        other = world_with_ways()
        before = seen(other)
        fork_space(one, 1)
        write_cells(one, 0, 1, 0, [9])
        end_space(one, 1)
        end_space(one, 2)
        make_space(one)
        self.assertEqual(seen(other), before)
        self.assert_whole(make_space(other), 3)


if __name__ == "__main__":
    unittest.main()
