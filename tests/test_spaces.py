import inspect
import unittest

from paneworks import spaces as module
from paneworks.errors import NoSpace
from paneworks.places import is_whole
from paneworks.sheets import new_sheet
from paneworks.spaces import end_space, fork_space, make_space
from paneworks.store import bring, row_now
from paneworks.stretches import laid
from paneworks.world import (
    World, told_book, told_copies, told_frames, told_holders, told_marks, told_plan, told_pointer, told_room,
    told_shelf, told_spaces, told_walks, told_ways)

ARGUMENTS = {"make_space": ["world"], "fork_space": ["world", "space"], "end_space": ["world", "space"]}
STRETCHES = [(0, 1, "own", 2, None, 0), (7, 9, "shared", 1, "a", 3), (200, 56, "own", 2, "a", 0)]


def seen(world):
    """All that a world tells, with the rows of its frames and of its shelf."""
    things = told_frames(world)
    sheets = told_shelf(world)
    return {
        "plans": {space: told_plan(world, space) for space in told_spaces(world)},
        "ways": {space: told_ways(world, space) for space in told_spaces(world)},
        "frames": things,
        "rows": {thing: row_now(world.store, thing) for thing in things if thing is not None},
        "marks": told_marks(world),
        "pointer": told_pointer(world),
        "shelf": sheets,
        "shelved": {sheet: row_now(world.store, ("own", sheet)) for sheet in sheets if sheet is not None},
        "holders": [told_holders(world, sheet) for sheet in range(20)],
        "books": [told_book(world, hand) for hand in range(len(world.books))],
        "walks": [told_walks(world, hand) for hand in range(len(world.books))],
        "copies": told_copies(world),
        "room": told_room(world),
    }


def give_sheet(world, space, page):
    sheet = new_sheet(world.store, [page, space, 0, 1])[0]
    world.spaces[space].table.lay(page, sheet)
    return sheet


def world_with_ways():
    """Spaces 1 and 2 with a plan, with sheets 1 to 3 and 4 to 5, and ways of both in the books of three hands."""
    world = World(3, 4, 3, 4)
    world.store.files.make("a", [[1, 2, 3, 4]] * 64)
    for space, pages in [(1, (0, 200, 255)), (2, (0, 210))]:
        make_space(world)
        for stretch in STRETCHES:
            world.spaces[space].plan = laid(world.spaces[space].plan, stretch)
        for page in pages:
            give_sheet(world, space, page)
    bring(world.store, ("own", 1))
    bring(world.store, ("file", "a", 3))
    world.store.dial.touch(1)
    for hand, ways in enumerate([[(1, 0, 0, 2), (2, 7, 1, 1), (1, 7, 1, 1)], [(2, 0, 2, 2)], [(1, 200, 2, 1)]]):
        for way in ways:
            world.books[hand].note(way[0], way[1], way[2], way[3])
    return world


class SpacesCase(unittest.TestCase):
    def assert_whole(self, told, wanted):
        self.assertEqual(told, wanted)
        self.assertIs(is_whole(told), True)

    def assert_refused(self, refusal, deed, world, *handed):
        before = seen(world)
        with self.assertRaises(refusal) as caught:
            deed(world, *handed)
        self.assertIs(caught.exception.__class__, refusal)
        self.assertEqual(seen(world), before)

    def assert_changed(self, world, before, **changes):
        """All is as before but for what is told here."""
        wanted = dict(before)
        wanted.update(changes)
        self.assertEqual(seen(world), wanted)

    def assert_counted(self, world):
        """The holders are those of walking all tables."""
        counted = [0] * 20
        for space in told_spaces(world):
            for page, sheet in told_ways(world, space):
                counted[sheet] += 1
        self.assertEqual(seen(world)["holders"], counted)


class InterfaceTest(unittest.TestCase):
    def test_names_and_arguments(self):
        for name, arguments in ARGUMENTS.items():
            with self.subTest(name=name):
                self.assertEqual(list(inspect.signature(getattr(module, name)).parameters), arguments)


class NumberTest(SpacesCase):
    def test_as_they_are_made_or_forked(self):
        world = World(2, 2, 1, 2)
        self.assert_whole(make_space(world), 1)
        self.assert_whole(make_space(world), 2)
        self.assert_whole(fork_space(world, 1), 3)
        self.assertEqual(told_spaces(world), [1, 2, 3])
        end_space(world, 2)
        self.assert_whole(make_space(world), 4)
        self.assert_whole(fork_space(world, 4), 5)
        self.assertEqual(told_spaces(world), [1, 3, 4, 5])

    def test_no_number_twice(self):
        world = World(1, 0, 1, 0)
        for number in range(1, 101):
            self.assert_whole(make_space(world) if number % 2 else fork_space(world, number - 1), number)
            if number % 2 == 0:
                end_space(world, number)
                end_space(world, number - 1)
            else:
                self.assertEqual(told_spaces(world), [number])
        self.assertEqual(told_spaces(world), [])

    def test_a_refused_fork_uses_up_none(self):
        world = World(1, 0, 1, 0)
        self.assert_refused(NoSpace, fork_space, world, 1)
        self.assert_whole(make_space(world), 1)
        self.assert_refused(NoSpace, fork_space, world, 2)
        self.assert_whole(fork_space(world, 1), 2)

    def test_many_live_at_once(self):
        world = World(1, 0, 1, 0)
        for number in range(1, 301):
            make_space(world)
        self.assertEqual(told_spaces(world), list(range(1, 301)))

    def test_a_new_space_is_without_stretch_and_way(self):
        world = world_with_ways()
        before = seen(world)
        self.assert_whole(make_space(world), 3)
        self.assert_changed(world, before, plans={**before["plans"], 3: []}, ways={**before["ways"], 3: []})


class NoSpaceTest(SpacesCase):
    def test_numbers_by_which_no_space_lives(self):
        for deed in (fork_space, end_space, told_plan, told_ways):
            world = world_with_ways()
            fork_space(world, 2)
            end_space(world, 1)
            for space in [0, -1, -10 ** 80, 1, 4, 5, 10 ** 5000]:
                self.assert_refused(NoSpace, deed, world, space)
            self.assert_refused(NoSpace, deed, World(1, 0, 1, 0), 1)


class ForkTest(SpacesCase):
    def test_the_same_plan_and_ways_and_nothing_else(self):
        for old in (1, 2):
            world = world_with_ways()
            before = seen(world)
            self.assertEqual(before["plans"][old], STRETCHES)
            self.assert_whole(fork_space(world, old), 3)
            held = [sheet for page, sheet in before["ways"][old]]
            self.assert_changed(
                world, before, plans={**before["plans"], 3: STRETCHES},
                ways={**before["ways"], 3: before["ways"][old]},
                holders=[count + (sheet in held) for sheet, count in enumerate(before["holders"])],
                books=[[way for way in ways if way[0] != old] for ways in before["books"]])
            self.assert_counted(world)

    def test_of_a_fork_and_again(self):
        world = world_with_ways()
        fork_space(world, 1)
        fork_space(world, 3)
        fork_space(world, 1)
        self.assertEqual([told_holders(world, sheet) for sheet in range(7)], [0, 4, 4, 4, 1, 1, 0])
        for space in (3, 4, 5):
            self.assertEqual(told_plan(world, space), STRETCHES)
            self.assertEqual(told_ways(world, space), [(0, 1), (200, 2), (255, 3)])
        self.assert_counted(world)

    def test_of_a_space_without_pages(self):
        world = world_with_ways()
        make_space(world)
        before = seen(world)
        self.assert_whole(fork_space(world, 3), 4)
        self.assert_changed(world, before, plans={**before["plans"], 4: []}, ways={**before["ways"], 4: []})

    def test_with_no_room(self):
        world = world_with_ways()
        make_space(world)
        give_sheet(world, 3, 1)
        self.assertEqual(told_room(world), 0)
        before = seen(world)
        fork_space(world, 1)
        self.assertEqual((told_room(world), told_frames(world), told_shelf(world), told_copies(world)),
                         (0, before["frames"], before["shelf"], 0))

    def test_the_two_are_apart_then(self):
        world = world_with_ways()
        fork_space(world, 1)
        before = seen(world)
        world.spaces[1].table.strike(200)
        world.spaces[1].plan = []
        self.assertEqual(told_ways(world, 3), before["ways"][3])
        self.assertEqual(told_plan(world, 3), STRETCHES)
        world.spaces[3].table.lay(9, 3)
        self.assertEqual(told_ways(world, 1), [(0, 1), (255, 3)])


class EndTest(SpacesCase):
    def test_its_sheets_and_ways_go(self):
        for old in (1, 2):
            world = world_with_ways()
            before = seen(world)
            end_space(world, old)
            gone = [sheet for page, sheet in before["ways"][old]]
            left = [None if thing in [("own", sheet) for sheet in gone] else thing for thing in before["frames"]]
            self.assertNotEqual(left, before["frames"])
            self.assert_changed(
                world, before, plans={3 - old: STRETCHES}, ways={3 - old: before["ways"][3 - old]}, frames=left,
                rows={thing: row for thing, row in before["rows"].items() if thing in left},
                marks=[mark and thing is not None for mark, thing in zip(before["marks"], left)],
                shelf=[None if sheet in gone else sheet for sheet in before["shelf"]],
                shelved={sheet: row for sheet, row in before["shelved"].items() if sheet not in gone},
                holders=[count - (sheet in gone) for sheet, count in enumerate(before["holders"])],
                books=[[way for way in ways if way[0] != old] for ways in before["books"]],
                room=before["room"] + len(gone))
            self.assert_counted(world)

    def test_sheets_with_other_holders_stay(self):
        for old in (1, 3):
            world = world_with_ways()
            fork_space(world, 1)
            world.books[2].note(1, 0, 0, 1)
            world.books[2].note(3, 0, 0, 1)
            before = seen(world)
            end_space(world, old)
            other = 4 - old
            self.assert_changed(
                world, before, plans={other: STRETCHES, 2: STRETCHES},
                ways={other: before["ways"][other], 2: before["ways"][2]},
                holders=[0] + [1] * 5 + [0] * 14,
                books=[[way for way in ways if way[0] != old] for ways in before["books"]])
            self.assert_counted(world)
            end_space(world, other)
            self.assertEqual([told_holders(world, sheet) for sheet in range(7)], [0, 0, 0, 0, 1, 1, 0])

    def test_of_all_spaces(self):
        world = world_with_ways()
        fork_space(world, 2)
        fork_space(world, 1)
        for space in (2, 1, 4, 3):
            end_space(world, space)
            self.assert_counted(world)
        self.assertEqual(told_spaces(world), [])
        self.assertEqual(told_frames(world), [("file", "a", 3), None, None])
        self.assertEqual(told_shelf(world), [None] * 4)
        self.assertEqual(told_room(world), 6)
        self.assertEqual([told_book(world, hand) for hand in range(3)], [[], [], []])

    def test_of_a_space_without_pages(self):
        world = world_with_ways()
        before = seen(world)
        make_space(world)
        end_space(world, 3)
        self.assert_changed(world, before)


class ApartTest(SpacesCase):
    def test_two_worlds(self):
        one = world_with_ways()
        other = world_with_ways()
        before = seen(other)
        fork_space(one, 1)
        end_space(one, 1)
        end_space(one, 2)
        make_space(one)
        self.assertEqual(seen(other), before)
        self.assert_whole(make_space(other), 3)


if __name__ == "__main__":
    unittest.main()
