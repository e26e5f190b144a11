import copy
import inspect
import unittest

from paneworks import world as module
from paneworks.errors import NoNumber, NoSpace
from paneworks.places import is_whole
from paneworks.spaces import end_space, fork_space, make_space
from paneworks.world import (
    World, told_book, told_copies, told_frames, told_holders, told_marks, told_plan, told_pointer, told_room,
    told_shelf, told_spaces, told_walks, told_ways)

ARGUMENTS = {
    "told_spaces": ["world"],
    "told_plan": ["world", "space"],
    "told_ways": ["world", "space"],
    "told_frames": ["world"],
    "told_marks": ["world"],
    "told_pointer": ["world"],
    "told_shelf": ["world"],
    "told_holders": ["world", "sheet"],
    "told_book": ["world", "hand"],
    "told_walks": ["world", "hand"],
    "told_copies": ["world"],
    "told_room": ["world"],
}
BOUNDS = [(1, 64), (0, 512), (1, 8), (0, 16)]
NO_NUMBERS = [True, False, "1", "", None, [], [1], (), (1,), {}]


def seen(world):
    """All that a world tells."""
    return {
        "plans": {space: told_plan(world, space) for space in told_spaces(world)},
        "ways": {space: told_ways(world, space) for space in told_spaces(world)},
        "frames": told_frames(world),
        "marks": told_marks(world),
        "pointer": told_pointer(world),
        "shelf": told_shelf(world),
        "holders": [told_holders(world, sheet) for sheet in range(20)],
        "books": [told_book(world, hand) for hand in range(len(world.books))],
        "walks": [told_walks(world, hand) for hand in range(len(world.books))],
        "copies": told_copies(world),
        "room": told_room(world),
    }


class WorldCase(unittest.TestCase):
    def assert_whole(self, told, wanted):
        self.assertEqual(told, wanted)
        self.assertIs(is_whole(told), True)

    def assert_refused(self, refusal, deed, world, *handed):
        before = seen(world)
        with self.assertRaises(refusal) as caught:
            deed(world, *handed)
        self.assertIs(caught.exception.__class__, refusal)
        self.assertEqual(seen(world), before)


class InterfaceTest(unittest.TestCase):
    def test_names_and_arguments(self):
        self.assertEqual(list(inspect.signature(World).parameters), ["many", "places", "hands", "slots"])
        for name, arguments in ARGUMENTS.items():
            with self.subTest(name=name):
                self.assertEqual(list(inspect.signature(getattr(module, name)).parameters), arguments)


class BoundsTest(WorldCase):
    def assert_no_world(self, *handed):
        with self.assertRaises(NoNumber) as caught:
            World(*handed)
        self.assertIs(caught.exception.__class__, NoNumber)

    def test_each_number_at_its_bounds(self):
        for place, bounds in enumerate(BOUNDS):
            for bound in bounds:
                handed = [3, 4, 2, 5]
                handed[place] = bound
                self.assert_new(*handed)
        self.assert_new(*[low for low, high in BOUNDS])
        self.assert_new(*[high for low, high in BOUNDS])

    def assert_new(self, many, places, hands, slots):
        world = World(many, places, hands, slots)
        self.assertEqual(told_frames(world), [None] * many)
        self.assertEqual(told_shelf(world), [None] * places)
        for hand in range(hands):
            self.assertEqual(told_book(world, hand), [])
        self.assert_refused(NoNumber, told_book, world, hands)
        for way in range(slots + 1):
            world.books[0].note(1, way, 0, 1)
        self.assertEqual(len(told_book(world, 0)), slots)

    def test_each_number_beyond_them(self):
        for place, (low, high) in enumerate(BOUNDS):
            for wrong in [low - 1, high + 1, low - 10 ** 80, high + 10 ** 5000, -1, 513] + NO_NUMBERS:
                handed = [3, 4, 2, 5]
                handed[place] = wrong
                with self.subTest(place=place):
                    self.assert_no_world(*handed)

    def test_several_beyond_them(self):
        self.assert_no_world(0, -1, 0, -1)
        self.assert_no_world(65, 513, 9, 17)
        self.assert_no_world(None, "1", True, [])
        self.assert_no_world(3, 4, 0, 17)


class NewWorldTest(WorldCase):
    def test_what_it_tells(self):
        for many, places, hands, slots in [(1, 0, 1, 0), (2, 1, 1, 16), (5, 7, 3, 4), (64, 512, 8, 16)]:
            world = World(many, places, hands, slots)
            self.assertEqual(seen(world), {
                "plans": {}, "ways": {}, "frames": [None] * many, "marks": [False] * many, "pointer": 0,
                "shelf": [None] * places, "holders": [0] * 20, "books": [[] for hand in range(hands)],
                "walks": [0] * hands, "copies": 0, "room": many - 1 + places})
            self.assertEqual(told_spaces(world), [])
            for told in [told_pointer(world), told_copies(world), told_room(world), told_walks(world, 0),
                         told_holders(world, 1)]:
                self.assertIs(is_whole(told), True)

    def test_lists_are_told_anew(self):
        world = World(3, 2, 2, 4)
        space = make_space(world)
        askers = [
            lambda: told_spaces(world), lambda: told_plan(world, space), lambda: told_ways(world, space),
            lambda: told_frames(world), lambda: told_marks(world), lambda: told_shelf(world),
            lambda: told_book(world, 0), lambda: told_book(world, 1),
        ]
        # Copied: what is told may not be kept by the world, else it would change along with it.
        before = copy.deepcopy(seen(world))
        for asker in askers:
            told = asker()
            self.assertIs(told.__class__, list)
            told.append(7)
            told[0] = 8
            told.insert(0, 9)
            self.assertEqual(seen(world), before)
            told.clear()
            self.assertEqual(seen(world), before)
        make_space(world)
        self.assertEqual(told_spaces(world), [1, 2])

    def test_worlds_made_apart_have_nothing_in_common(self):
        one = World(2, 2, 2, 2)
        other = World(2, 2, 2, 2)
        before = seen(other)
        make_space(one)
        fork_space(one, 1)
        end_space(one, 1)
        self.assertEqual(seen(other), before)
        self.assert_whole(make_space(other), 1)
        self.assertEqual(told_spaces(one), [2])


class AskedTest(WorldCase):
    def test_a_hand_that_is_none(self):
        for hands in (1, 3, 8):
            world = World(2, 2, hands, 2)
            for deed in (told_book, told_walks):
                for hand in [-1, hands, hands + 1, 10 ** 5000, -10 ** 80] + NO_NUMBERS:
                    self.assert_refused(NoNumber, deed, world, hand)
                deed(world, 0)
                deed(world, hands - 1)

    def test_a_space_that_does_not_live(self):
        world = World(2, 2, 1, 2)
        for deed in (told_plan, told_ways):
            for space in [0, -1, 1, 2, 10 ** 5000, -10 ** 80]:
                self.assert_refused(NoSpace, deed, world, space)
        make_space(world)
        make_space(world)
        end_space(world, 1)
        for deed in (told_plan, told_ways):
            for space in [0, -1, 1, 3, 10 ** 5000]:
                self.assert_refused(NoSpace, deed, world, space)
            self.assertEqual(deed(world, 2), [])

    def test_holders_of_a_sheet_that_never_was(self):
        world = World(2, 2, 1, 2)
        for sheet in [0, 1, -1, 10 ** 80]:
            self.assert_whole(told_holders(world, sheet), 0)


if __name__ == "__main__":
    unittest.main()
