import inspect
import unittest

from helper import NO_NUMBERS, seen
from paneworks import maps as module
from paneworks.errors import Held, NoFile, NoNumber, NoPage, NoRight, NoSpace, Taken
from paneworks.maps import drop_file, make_file, map_pages, set_rights, told_file, unmap_pages
from paneworks.spaces import end_space, fork_space, make_space
from paneworks.touches import read_cells, write_cells
from paneworks.world import (
    World, told_book, told_copies, told_frames, told_holders, told_plan, told_room, told_shelf, told_ways)

ARGUMENTS = {
    "map_pages": ["world", "space", "first", "many", "kind", "rights", "name", "start"],
    "set_rights": ["world", "space", "first", "many", "rights"],
    "unmap_pages": ["world", "space", "first", "many"],
    "make_file": ["world", "name", "rows"],
    "drop_file": ["world", "name"],
    "told_file": ["world", "name"],
}
FAR = [10 ** 80, -10 ** 80, 10 ** 5000]
MOST = 10 ** 60 - 1


def file_rows(many, begin=100):
    return [[begin + page, 0, MOST, -MOST] for page in range(many)]


def world_with_files(many=3, places=6, hands=2, slots=4):
    """Space 1 without a stretch; the files a and b of eight rows, and c of 64."""
    world = World(many, places, hands, slots)
    make_space(world)
    make_file(world, "a", file_rows(8))
    make_file(world, "b", file_rows(8, 200))
    make_file(world, "c", file_rows(64, 300))
    return world


class MapsCase(unittest.TestCase):
    def assert_refused(self, refusal, deed, world, *handed):
        before = seen(world)
        with self.assertRaises(refusal) as caught:
            deed(world, *handed)
        self.assertIs(caught.exception.__class__, refusal)
        self.assertEqual(seen(world), before)

    def assert_changed(self, world, before, **changes):
        """All is as before but for what is told here."""
        wanted = dict(before)
        wanted.update(changes)
        self.assertEqual(seen(world), wanted)


class InterfaceTest(unittest.TestCase):
    def test_names_and_arguments(self):
        for name, arguments in ARGUMENTS.items():
            with self.subTest(name=name):
                self.assertEqual(list(inspect.signature(getattr(module, name)).parameters), arguments)

    def test_name_and_start_may_be_left_out(self):
        parameters = inspect.signature(map_pages).parameters
        self.assertIsNone(parameters["name"].default)
        self.assertEqual(parameters["start"].default, 0)


class MapTest(MapsCase):
    def assert_mapped(self, handed, stretch):
        world = world_with_files()
        before = seen(world)
        map_pages(world, 1, *handed)
        self.assert_changed(world, before, plans={1: [stretch]})

    def test_pages_at_the_bounds(self):
        for first, many in [(0, 1), (255, 1), (0, 256), (0, 255), (1, 255), (254, 2), (100, 156), (17, 30)]:
            for rights in (0, 1, 2):
                self.assert_mapped((first, many, "own", rights), (first, many, "own", rights, None, 0))

    def test_own_of_no_file_whatever_the_start(self):
        self.assert_mapped((3, 2, "own", 2, None), (3, 2, "own", 2, None, 0))
        for start in [0, 5, 63, 64, -1] + FAR + NO_NUMBERS:
            self.assert_mapped((3, 2, "own", 2, None, start), (3, 2, "own", 2, None, 0))

    def test_of_a_file(self):
        for kind in ("own", "shared"):
            for rights in (0, 1, 2):
                self.assert_mapped((3, 2, kind, rights, "a"), (3, 2, kind, rights, "a", 0))
                self.assert_mapped((3, 2, kind, rights, "a", 5), (3, 2, kind, rights, "a", 5))

    def test_up_to_the_end_of_the_file(self):
        for kind in ("own", "shared"):
            for name, size in [("a", 8), ("c", 64)]:
                for many in (1, 2, 7, 8):
                    handed = (100, many, kind, 1, name, size - many)
                    self.assert_mapped(handed, (100, many, kind, 1, name, size - many))

    def test_by_the_arguments_names(self):
        world = world_with_files()
        map_pages(world, 1, first=4, many=2, kind="shared", rights=1, name="b", start=3)
        self.assertEqual(told_plan(world, 1), [(4, 2, "shared", 1, "b", 3)])

    def test_neighbours_that_could_be_one_are_one(self):
        world = world_with_files()
        for handed in [(4, 2, "own", 2), (0, 4, "own", 2), (6, 1, "own", 1), (7, 2, "own", 2, "a", 1),
                       (9, 3, "own", 2, "a", 3), (12, 1, "own", 2, "a", 7), (13, 1, "shared", 2, "a", 6)]:
            map_pages(world, 1, *handed)
        self.assertEqual(told_plan(world, 1), [
            (0, 6, "own", 2, None, 0), (6, 1, "own", 1, None, 0), (7, 5, "own", 2, "a", 1),
            (12, 1, "own", 2, "a", 7), (13, 1, "shared", 2, "a", 6)])

    def test_one_space_alone(self):
        world = world_with_files()
        make_space(world)
        map_pages(world, 2, 0, 3, "own", 2)
        self.assertEqual(told_plan(world, 1), [])
        map_pages(world, 1, 1, 3, "shared", 1, "a", 0)
        self.assertEqual(told_plan(world, 2), [(0, 3, "own", 2, None, 0)])


class MapRefusedTest(MapsCase):
    def test_a_number_beyond_its_bounds(self):
        world = world_with_files()
        plain = [3, 2, "shared", 1, "a", 0]
        for place, low, high in [(0, 0, 255), (1, 1, 256), (3, 0, 2), (5, 0, 63)]:
            for wrong in [low - 1, high + 1] + FAR + NO_NUMBERS:
                handed = list(plain)
                handed[place] = wrong
                with self.subTest(place=place):
                    self.assert_refused(NoNumber, map_pages, world, 1, *handed)

    def test_the_last_page_beyond_255(self):
        world = world_with_files()
        for first, many in [(255, 2), (1, 256), (254, 3), (100, 157), (255, 256)]:
            self.assert_refused(NoNumber, map_pages, world, 1, first, many, "own", 2)
            self.assert_refused(NoNumber, set_rights, world, 1, first, many, 2)
            self.assert_refused(NoNumber, unmap_pages, world, 1, first, many)

    def test_no_space(self):
        world = world_with_files()
        make_space(world)
        end_space(world, 2)
        for space in [0, -1, 2, 3] + FAR:
            self.assert_refused(NoSpace, map_pages, world, space, 0, 1, "own", 2)
            self.assert_refused(NoSpace, map_pages, world, space, 0, 1, "shared", 2, "a", 0)
            self.assert_refused(NoSpace, set_rights, world, space, 0, 1, 2)
            self.assert_refused(NoSpace, unmap_pages, world, space, 0, 1)

    def test_no_file(self):
        world = world_with_files()
        for kind in ("own", "shared"):
            for name in ["d", "aa", "abcdefgh"]:
                self.assert_refused(NoFile, map_pages, world, 1, 0, 1, kind, 2, name, 0)
                self.assert_refused(NoFile, map_pages, world, 1, 0, 1, kind, 2, name)
        drop_file(world, "b")
        self.assert_refused(NoFile, map_pages, world, 1, 0, 1, "own", 2, "b", 0)

    def test_shared_of_none(self):
        world = world_with_files()
        self.assert_refused(NoFile, map_pages, world, 1, 0, 1, "shared", 2)
        for start in [0, 1, 64, -1] + FAR + NO_NUMBERS:
            self.assert_refused(NoFile, map_pages, world, 1, 0, 1, "shared", 2, None, start)

    def test_beyond_the_end_of_the_file(self):
        world = world_with_files()
        for kind in ("own", "shared"):
            for name, size in [("a", 8), ("c", 64)]:
                for many, start in [(2, size - 1), (size, 1), (size + 1, 0), (9, size - 8)]:
                    self.assert_refused(NoPage, map_pages, world, 1, 0, many, kind, 2, name, start)
            for start in (8, 9, 63):
                self.assert_refused(NoPage, map_pages, world, 1, 0, 1, kind, 2, "a", start)
        make_file(world, "d", file_rows(1))
        self.assert_refused(NoPage, map_pages, world, 1, 0, 1, "own", 2, "d", 1)
        self.assert_refused(NoPage, map_pages, world, 1, 0, 2, "own", 2, "d", 0)

    def test_taken(self):
        world = world_with_files()
        map_pages(world, 1, 10, 3, "own", 0)
        map_pages(world, 1, 255, 1, "shared", 2, "a", 0)
        for first, many in [(10, 1), (11, 1), (12, 1), (9, 2), (12, 2), (8, 8), (0, 256), (255, 1), (200, 56)]:
            self.assert_refused(Taken, map_pages, world, 1, first, many, "own", 2)
        self.assert_refused(Taken, map_pages, world, 1, 10, 3, "shared", 2, "b", 0)
        map_pages(world, 1, 9, 1, "own", 2)
        map_pages(world, 1, 13, 1, "own", 2)

    def test_the_first_of_several(self):
        world = world_with_files()
        map_pages(world, 1, 10, 3, "own", 2)
        for refusal, handed in [
            # a wrong number, and no space, no file, no page of the file, a page that is mapped
            (NoNumber, (9, 256, 1, "own", 2)), (NoNumber, (1, 0, 0, "own", 2, "d", 0)),
            (NoNumber, (9, 0, 1, "own", 2, "a", 64)), (NoNumber, (1, 0, 1, "own", 3, "d", 0)),
            (NoNumber, (1, 0, 1, "shared", 3)), (NoNumber, (1, 0, 1, "shared", 3, None, 64)),
            (NoNumber, (1, 0, 1, "own", -1, "a", 8)), (NoNumber, (1, 0, 1, "own", 2, "a", 64)),
            (NoNumber, (1, 0, 1, "own", 2, "d", -1)), (NoNumber, (1, 10, 3, "own", 3)),
            (NoNumber, (1, 10, 247, "own", 2)), (NoNumber, (1, 10, 1, "own", 2, "a", True)),
            # no space, and no file, no page of the file
            (NoSpace, (9, 0, 1, "own", 2, "d", 0)), (NoSpace, (9, 0, 1, "shared", 2)),
            (NoSpace, (9, 0, 1, "own", 2, "a", 8)), (NoSpace, (9, 10, 1, "own", 2)),
            # no file, and a page that is mapped
            (NoFile, (1, 10, 1, "own", 2, "d", 0)), (NoFile, (1, 10, 1, "shared", 2)),
            (NoFile, (1, 10, 100, "own", 2, "d", 63)),
            # no page of the file, and a page that is mapped
            (NoPage, (1, 10, 1, "own", 2, "a", 8)), (NoPage, (1, 12, 9, "shared", 2, "a", 0)),
        ]:
            with self.subTest(handed=handed):
                self.assert_refused(refusal, map_pages, world, *handed)
        for refusal, handed in [(NoNumber, (9, 0, 0)), (NoNumber, (1, 0, 257)), (NoNumber, (9, -1, 1)),
                                (NoSpace, (9, 0, 1)), (NoPage, (1, 9, 2))]:
            self.assert_refused(refusal, unmap_pages, world, *handed)
            self.assert_refused(refusal, set_rights, world, *handed, 2)
        self.assert_refused(NoNumber, set_rights, world, 9, 0, 1, 3)
        self.assert_refused(NoNumber, set_rights, world, 1, 0, 1, 3)


def mixed_world(hands=2, slots=16):
    """Two spaces with five stretches each, all pages of them read by hand 0 and the blank ones written."""
    world = world_with_files(64, 64, hands, slots)
    make_space(world)
    for space in (1, 2):
        map_pages(world, space, 0, 4, "own", 2)
        map_pages(world, space, 4, 2, "own", 2, "a", 0)
        map_pages(world, space, 6, 2, "shared", 2, "a", 0)
        map_pages(world, space, 20, 2, "own", 1, "b", 6)
        map_pages(world, space, 254, 2, "own", 2)
        for page in (0, 1, 2, 3, 254, 255):
            write_cells(world, 0, space, 4 * page, [page, space, 0, -page])
        for page in (4, 5, 6, 7):
            read_cells(world, 0, space, 4 * page, 4)
    return world


def plan_of_states(states):
    """The plan of a dict of pages and states."""
    plan = []
    for page, state in sorted(states.items()):
        last = plan[-1] if plan else None
        joins = last and last[0] + last[1] == page and last[2:5] == state[:3]
        if joins and (state[2] is None or last[5] + last[1] == state[3]):
            plan[-1] = (last[0], last[1] + 1) + last[2:]
        else:
            plan.append((page, 1) + state)
    return plan


def states_of(plan):
    return {first + at: (kind, rights, name, 0 if name is None else start + at)
            for first, many, kind, rights, name, start in plan for at in range(many)}


class RightsTest(MapsCase):
    def assert_given(self, world, space, first, many, rights):
        before = seen(world)
        set_rights(world, space, first, many, rights)
        states = states_of(before["plans"][space])
        for page in range(first, first + many):
            states[page] = (states[page][0], rights) + states[page][2:]
        plans = dict(before["plans"])
        plans[space] = plan_of_states(states)
        self.assert_changed(world, before, plans=plans, books=[
            [way for way in ways if way[0] != space or not first <= way[1] < first + many]
            for ways in before["books"]])

    def test_over_parts_of_stretches_and_several(self):
        for first, many in [(0, 1), (1, 2), (3, 1), (0, 4), (0, 8), (3, 2), (5, 2), (7, 1), (20, 1), (21, 1), (255, 1),
                            (254, 2)]:
            for rights in (0, 1, 2):
                for space in (1, 2):
                    self.assert_given(mixed_world(), space, first, many, rights)

    def test_over_all_pages(self):
        world = world_with_files()
        map_pages(world, 1, 0, 250, "own", 2)
        map_pages(world, 1, 250, 6, "shared", 2, "a", 2)
        write_cells(world, 0, 1, 0, [1] * 9)
        write_cells(world, 1, 1, 1023, [1])
        for rights in (1, 0, 0, 2):
            self.assert_given(world, 1, 0, 256, rights)

    def test_ways_are_struck_from_all_books(self):
        world = mixed_world(3, 16)
        for hand in range(3):
            read_cells(world, hand, 1, 16, 16)
            read_cells(world, hand, 2, 16, 16)
        for hand in range(3):
            self.assertEqual([page for space, page, frame, mark in told_book(world, hand) if space == 1][-4:],
                             [4, 5, 6, 7])
        self.assert_given(world, 1, 5, 2, 2)
        for hand in range(3):
            self.assertEqual([page for space, page, frame, mark in told_book(world, hand) if space == 1][-2:], [4, 7])

    def test_what_they_give(self):
        world = mixed_world()
        set_rights(world, 1, 0, 2, 1)
        self.assertEqual(read_cells(world, 0, 1, 0, 8), [0, 1, 0, 0, 1, 1, 0, -1])
        self.assert_refused(NoRight, write_cells, world, 0, 1, 0, [5])
        set_rights(world, 1, 1, 1, 0)
        self.assert_refused(NoRight, read_cells, world, 0, 1, 0, 8)
        set_rights(world, 1, 0, 2, 2)
        write_cells(world, 0, 1, 3, [5, 6])
        self.assertEqual(read_cells(world, 0, 1, 0, 8), [0, 1, 0, 5, 6, 1, 0, -1])

    def test_a_page_that_is_not_mapped(self):
        world = mixed_world()
        for first, many in [(8, 1), (7, 2), (0, 9), (19, 2), (19, 1), (21, 2), (20, 3), (253, 3), (0, 256), (253, 1),
                            (100, 1)]:
            self.assert_refused(NoPage, set_rights, world, 1, first, many, 2)
            self.assert_refused(NoPage, unmap_pages, world, 1, first, many)

    def test_a_number_beyond_its_bounds(self):
        world = mixed_world()
        for place, low, high in [(0, 0, 255), (1, 1, 256), (2, 0, 2)]:
            for wrong in [low - 1, high + 1] + FAR + NO_NUMBERS:
                handed = [0, 2, 1]
                handed[place] = wrong
                self.assert_refused(NoNumber, set_rights, world, 1, *handed)
                if place < 2:
                    self.assert_refused(NoNumber, unmap_pages, world, 1, *handed[:2])


class UnmapTest(MapsCase):
    def assert_taken_away(self, world, space, first, many):
        before = seen(world)
        unmap_pages(world, space, first, many)
        pages = range(first, first + many)
        plans = dict(before["plans"])
        plans[space] = plan_of_states({page: state for page, state in states_of(before["plans"][space]).items()
                                       if page not in pages})
        ways = dict(before["ways"])
        ways[space] = [way for way in before["ways"][space] if way[0] not in pages]
        less = [way[1] for way in before["ways"][space] if way[0] in pages]
        holders = {sheet: count - (sheet in less) for sheet, count in before["holders"].items()}
        gone = [("own", sheet) for sheet in less if holders[sheet] == 0]
        self.assertEqual([told_holders(world, sheet) for sheet in holders], list(holders.values()))
        after = seen(world)
        self.assert_changed(
            world, before, plans=plans, ways=ways, holders=after["holders"], room=before["room"] + len(gone),
            books=[[way for way in book if way[0] != space or way[1] not in pages] for book in before["books"]],
            frames=[None if thing in gone else thing for thing in before["frames"]],
            marks=[mark and before["frames"][at] not in gone for at, mark in enumerate(before["marks"])],
            soiled=[soiled and before["frames"][at] not in gone for at, soiled in enumerate(before["soiled"])],
            shelf=[None if ("own", sheet) in gone else sheet for sheet in before["shelf"]],
            rows={thing: row for thing, row in before["rows"].items() if thing not in gone})
        return less

    def test_over_parts_of_stretches_and_several(self):
        for first, many, sheets in [(0, 1, 1), (1, 2, 2), (3, 1, 1), (0, 4, 4), (0, 8, 4), (3, 2, 1), (5, 2, 0),
                                    (7, 1, 0), (20, 1, 0), (255, 1, 1), (254, 2, 2)]:
            for space in (1, 2):
                less = self.assert_taken_away(mixed_world(), space, first, many)
                self.assertEqual(len(less), sheets)

    def test_over_all_pages(self):
        world = world_with_files(3, 60)
        map_pages(world, 1, 0, 250, "own", 2)
        map_pages(world, 1, 250, 6, "shared", 2, "a", 2)
        for place in range(0, 1024, 40):
            write_cells(world, 0, 1, place, [1])
        self.assert_taken_away(world, 1, 0, 256)
        self.assertEqual(told_plan(world, 1), [])
        self.assertEqual(told_room(world), 62)

    def test_sheets_on_the_shelf(self):
        world = world_with_files(2, 8)
        map_pages(world, 1, 0, 8, "own", 2)
        write_cells(world, 0, 1, 0, list(range(32)))
        self.assertEqual(told_shelf(world), [1, 2, 3, 4, 5, 6, None, None])
        self.assert_taken_away(world, 1, 1, 2)
        self.assertEqual(told_shelf(world), [1, None, None, 4, 5, 6, None, None])
        self.assertEqual(read_cells(world, 0, 1, 12, 20), list(range(12, 32)))

    def test_sheets_with_other_holders_stay(self):
        world = mixed_world()
        fork_space(world, 1)
        read_cells(world, 1, 1, 0, 16)
        read_cells(world, 1, 3, 0, 16)
        less = self.assert_taken_away(world, 1, 0, 4)
        self.assertEqual([told_holders(world, sheet) for sheet in less], [1, 1, 1, 1])
        self.assertEqual(read_cells(world, 0, 3, 0, 8), [0, 1, 0, 0, 1, 1, 0, -1])
        self.assert_taken_away(world, 3, 0, 4)
        self.assertEqual([told_holders(world, sheet) for sheet in less], [0, 0, 0, 0])

    def test_a_page_that_is_mapped_anew_begins_anew(self):
        world = mixed_world()
        write_cells(world, 0, 1, 16, [55])
        write_cells(world, 0, 1, 24, [66])
        unmap_pages(world, 1, 0, 8)
        self.assert_refused(NoPage, read_cells, world, 0, 1, 0, 1)
        map_pages(world, 1, 0, 4, "own", 2)
        self.assertEqual(read_cells(world, 0, 1, 0, 16), [0] * 16)
        map_pages(world, 1, 4, 1, "own", 2, "a", 0)
        self.assertEqual(read_cells(world, 0, 1, 16, 4), [66, 0, MOST, -MOST])
        self.assertEqual(told_ways(world, 1), [(254, 5), (255, 6)])
        # The same pages, now of another sort than when they were written.
        map_pages(world, 1, 5, 1, "shared", 2, "b", 7)
        self.assertEqual(read_cells(world, 0, 1, 20, 4), [207, 0, MOST, -MOST])
        map_pages(world, 1, 6, 1, "own", 2)
        self.assertEqual(read_cells(world, 0, 1, 24, 4), [0] * 4)

    def test_a_way_in_a_book_is_not_found_for_a_page_mapped_anew(self):
        world = mixed_world()
        read_cells(world, 1, 1, 4, 4)
        unmap_pages(world, 1, 1, 1)
        map_pages(world, 1, 1, 1, "own", 2)
        for hand in (0, 1):
            self.assertEqual(read_cells(world, hand, 1, 4, 4), [0] * 4)


class FileTest(MapsCase):
    def test_of_one_and_of_64_rows(self):
        for many in (1, 2, 63, 64):
            world = World(1, 0, 1, 0)
            before = seen(world)
            rows = file_rows(many)
            make_file(world, "new", rows)
            self.assert_changed(world, before, files={"new": rows}, stored={"new": rows})
            told = told_file(world, "new")
            self.assertEqual(told, file_rows(many))
            self.assertIs(told.__class__, list)

    def test_rows_are_apart_from_those_handed_in_and_told(self):
        world = World(1, 0, 1, 0)
        rows = file_rows(2)
        make_file(world, "a", rows)
        self.assertEqual(rows, file_rows(2))
        rows[0][0] = 9
        rows.append([1, 2, 3, 4])
        told = told_file(world, "a")
        told[1][1] = 9
        told.pop()
        self.assertEqual(told_file(world, "a"), file_rows(2))
        same = [1, 2, 3, 4]
        make_file(world, "b", [same, same])
        make_space(world)
        map_pages(world, 1, 0, 2, "shared", 2, "b", 0)
        write_cells(world, 0, 1, 0, [7])
        self.assertEqual(told_file(world, "b"), [[7, 2, 3, 4], [1, 2, 3, 4]])
        self.assertEqual(same, [1, 2, 3, 4])

    def test_no_list_of_rows(self):
        world = world_with_files()
        good = [1, 2, 3, 4]
        wrong = [[], [good] * 65, [good] * 1000, tuple([good]), "1", "", 1, 0, True, None, {}, {0: good}, good, [[good]]]
        for rows in wrong:
            self.assert_refused(NoNumber, make_file, world, "new", rows)
            self.assert_refused(NoNumber, make_file, world, "a", rows)

    def test_a_row_that_is_none_at_each_place(self):
        world = world_with_files()
        wrong_rows = [[], [1, 2, 3], [1, 2, 3, 4, 5], (1, 2, 3, 4), "1234", None, 4, True, [1, 2, 3, None],
                      [True, 2, 3, 4], [1, "2", 3, 4], [1, 2, [3], 4], [1, 2, 3, 10 ** 60], [-10 ** 60, 2, 3, 4],
                      [1, (2,), 3, 4], [1, 2, 10 ** 5000, 4]]
        for wrong in wrong_rows:
            for many in (1, 3, 64):
                for at in {0, many // 2, many - 1}:
                    rows = file_rows(many)
                    rows[at] = wrong
                    self.assert_refused(NoNumber, make_file, world, "new", rows)
                    self.assert_refused(NoNumber, make_file, world, "a", rows)

    def test_a_name_in_use(self):
        world = world_with_files()
        self.assert_refused(Taken, make_file, world, "a", file_rows(3))
        self.assert_refused(Taken, make_file, world, "c", file_rows(64, 300))
        drop_file(world, "a")
        make_file(world, "a", file_rows(3))
        self.assertEqual(told_file(world, "a"), file_rows(3))

    def test_a_name_that_no_file_has(self):
        world = world_with_files()
        for deed in (drop_file, told_file):
            for name in ["d", "aa", "abcdefgh", "own"]:
                self.assert_refused(NoFile, deed, world, name)
        drop_file(world, "a")
        for deed in (drop_file, told_file):
            self.assert_refused(NoFile, deed, world, "a")
            self.assert_refused(NoFile, deed, World(1, 0, 1, 0), "b")

    def test_held_while_a_stretch_is_of_it(self):
        for kind in ("own", "shared"):
            for rights in (0, 2):
                world = world_with_files()
                make_space(world)
                map_pages(world, 2, 9, 3, kind, rights, "a", 4)
                self.assert_refused(Held, drop_file, world, "a")
                fork_space(world, 2)
                unmap_pages(world, 2, 9, 1)
                unmap_pages(world, 2, 11, 1)
                self.assert_refused(Held, drop_file, world, "a")
                unmap_pages(world, 2, 10, 1)
                self.assert_refused(Held, drop_file, world, "a")
                end_space(world, 3)
                before = seen(world)
                drop_file(world, "a")
                before["files"].pop("a")
                before["stored"].pop("a")
                self.assert_changed(world, before)

    def test_held_also_where_each_page_was_copied(self):
        world = world_with_files()
        map_pages(world, 1, 0, 1, "own", 2, "a", 0)
        write_cells(world, 0, 1, 0, [1, 2, 3, 4])
        self.assert_refused(Held, drop_file, world, "a")

    def test_other_files_hold_nothing(self):
        world = world_with_files()
        map_pages(world, 1, 0, 2, "own", 2, "a", 0)
        drop_file(world, "b")
        drop_file(world, "c")
        self.assertEqual(told_file(world, "a"), file_rows(8))

    def test_dropped_with_pages_in_frames(self):
        world = world_with_files(4, 2)
        map_pages(world, 1, 0, 3, "shared", 2, "a", 0)
        map_pages(world, 1, 3, 1, "shared", 2, "b", 0)
        write_cells(world, 0, 1, 0, [9] * 16)
        unmap_pages(world, 1, 0, 3)
        before = seen(world)
        self.assertEqual(before["frames"], [("file", "a", 0), ("file", "a", 1), ("file", "a", 2), ("file", "b", 0)])
        drop_file(world, "a")
        self.assert_changed(
            world, before, frames=[None, None, None, ("file", "b", 0)], marks=[False, False, False, True],
            soiled=[False, False, False, True], rows={("file", "b", 0): [9] * 4},
            files={name: before["files"][name] for name in ("b", "c")},
            stored={name: before["stored"][name] for name in ("b", "c")})
        make_file(world, "a", file_rows(1, 700))
        map_pages(world, 1, 0, 1, "own", 2, "a", 0)
        self.assertEqual(read_cells(world, 0, 1, 0, 4), [700, 0, MOST, -MOST])

    def test_told_as_it_is_now(self):
        for many in (1, 2, 5):
            world = world_with_files(many, 0)
            map_pages(world, 1, 0, 8, "shared", 2, "a", 0)
            rows = file_rows(8)
            for page in (7, 0, 3, 4, 0):
                write_cells(world, 0, 1, 4 * page + 1, [page + 50])
                rows[page][1] = page + 50
                before = seen(world)
                self.assertEqual(told_file(world, "a"), rows)
                self.assert_changed(world, before)

    def test_own_pages_leave_the_file(self):
        world = world_with_files()
        map_pages(world, 1, 0, 2, "own", 2, "a", 0)
        write_cells(world, 0, 1, 0, [1] * 8)
        self.assertEqual(told_file(world, "a"), file_rows(8))
        self.assertEqual(told_copies(world), 2)
        self.assertEqual(told_frames(world), [("own", 1), ("own", 2), None])


if __name__ == "__main__":
    unittest.main()
