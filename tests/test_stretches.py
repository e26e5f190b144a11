import inspect
import unittest

from paneworks import stretches
from paneworks.errors import NoPage, Taken
from paneworks.stretches import (could_join, covers, is_plan, laid, names_of, state_at, with_rights, without)

PAGES = 256
FAR = 10 ** 60 - 300
ARGUMENTS = {
    "could_join": ["one", "other"],
    "is_plan": ["some"],
    "state_at": ["plan", "page"],
    "covers": ["plan", "first", "many"],
    "names_of": ["plan"],
    "laid": ["plan", "stretch"],
    "without": ["plan", "first", "many"],
    "with_rights": ["plan", "first", "many", "rights"],
}
PLANS = [
    [],
    [(0, 1, "own", 1, None, 0)],
    [(255, 1, "own", 2, None, 0)],
    [(0, 256, "own", 2, None, 0)],
    [(0, 256, "shared", 1, "a", FAR)],
    [(3, 5, "own", 2, None, 0), (9, 1, "own", 2, None, 0), (11, 4, "own", 2, None, 0)],
    [(0, 4, "own", 2, None, 0), (4, 4, "own", 1, None, 0), (8, 4, "own", 2, None, 0)],
    [(10, 6, "own", 2, "ab", 5), (16, 6, "own", 2, "ab", 12), (22, 6, "shared", 2, "ab", 18),
     (28, 2, "own", 0, None, 0), (40, 8, "own", 1, "abc", 0), (250, 6, "own", 2, "ab", 58)],
    [(0, 100, "shared", 0, "zz", 0), (100, 1, "own", 0, "zz", 100), (101, 155, "shared", 0, "zz", FAR)],
    [(0, 2, "own", 1, "a", 3), (2, 2, "own", 2, "a", 5), (4, 2, "own", 1, "a", 7), (6, 2, "own", 1, "a", 3)],
]


def states_of(plan):
    states = [None] * PAGES
    for first, many, kind, rights, name, start in plan:
        for step in range(many):
            states[first + step] = (kind, rights, name, 0 if name is None else start + step)
    return states


def page_ranges(plan):
    edges = {0, 1, 2, 127, 254, 255, 256}
    for stretch in plan:
        first, end = stretch[0], stretch[0] + stretch[1]
        edges.update([first - 1, first, first + 1, end - 1, end, end + 1])
    edges = sorted(edge for edge in edges if 0 <= edge <= PAGES)
    return [(low, high - low) for low in edges for high in edges if low < high]


class PlanCase(unittest.TestCase):
    def assert_states(self, plan, states):
        self.assertIs(plan.__class__, list)
        for stretch in plan:
            self.assertIs(stretch.__class__, tuple)
        self.assertEqual(states_of(plan), states)
        self.assertIs(is_plan(plan), True)
        for one, other in zip(plan, plan[1:]):
            self.assertLessEqual(one[0] + one[1], other[0])
        for stretch in plan:
            if stretch[4] is None:
                self.assertEqual(stretch[5], 0)

    def assert_refused(self, refusal, deed, plan, *handed):
        before = list(plan)
        with self.assertRaises(refusal) as caught:
            deed(plan, *handed)
        self.assertIs(caught.exception.__class__, refusal)
        self.assertEqual(plan, before)

    def assert_told_anew(self, told, plan, before):
        self.assertIsNot(told, plan)
        self.assertEqual(plan, before)
        kept = list(told)
        plan.append((0, 1, "own", 0, "kept", 0))
        self.assertEqual(told, kept)
        plan.pop()
        told.append((0, 1, "own", 0, "kept", 0))
        self.assertEqual(plan, before)


class InterfaceTest(unittest.TestCase):
    def test_names_and_arguments(self):
        for name, arguments in ARGUMENTS.items():
            with self.subTest(name=name):
                self.assertEqual(list(inspect.signature(getattr(stretches, name)).parameters), arguments)


class JoinTest(unittest.TestCase):
    FILE = (4, 3, "own", 1, "ab", 7)
    NO_FILE = (4, 3, "own", 1, None, 0)

    def test_neighbours_that_could_be_one(self):
        for one, other in [
            (self.FILE, (7, 5, "own", 1, "ab", 10)),
            (self.FILE, (7, 1, "own", 1, "ab", 10)),
            (self.NO_FILE, (7, 5, "own", 1, None, 0)),
            ((0, 1, "shared", 0, "z", 0), (1, 255, "shared", 0, "z", 1)),
            ((0, 255, "own", 2, None, 0), (255, 1, "own", 2, None, 0)),
            ((3, 2, "shared", 2, "abcdefgh", FAR), (5, 2, "shared", 2, "abcdefgh", FAR + 2)),
        ]:
            with self.subTest(one=one, other=other):
                self.assertIs(could_join(one, other), True)
                self.assertIs(could_join(other, one), False)

    def test_of_a_file_that_differ_in_one_thing(self):
        for other in [
            (8, 5, "own", 1, "ab", 10),
            (8, 5, "own", 1, "ab", 11),
            (6, 5, "own", 1, "ab", 10),
            (6, 5, "own", 1, "ab", 9),
            (7, 5, "shared", 1, "ab", 10),
            (7, 5, "own", 0, "ab", 10),
            (7, 5, "own", 2, "ab", 10),
            (7, 5, "own", 1, "ac", 10),
            (7, 5, "own", 1, "abc", 10),
            (7, 5, "own", 1, "a", 10),
            (7, 5, "own", 1, None, 0),
            (7, 5, "own", 1, "ab", 9),
            (7, 5, "own", 1, "ab", 11),
            (7, 5, "own", 1, "ab", 7),
            (7, 5, "own", 1, "ab", 0),
            (7, 5, "own", 1, "ab", 12),
        ]:
            with self.subTest(other=other):
                self.assertIs(could_join(self.FILE, other), False)
                self.assertIs(could_join(other, self.FILE), False)

    def test_of_no_file_that_differ_in_one_thing(self):
        for other in [
            (8, 5, "own", 1, None, 0),
            (6, 5, "own", 1, None, 0),
            (7, 5, "shared", 1, None, 0),
            (7, 5, "own", 0, None, 0),
            (7, 5, "own", 2, None, 0),
            (7, 5, "own", 1, "ab", 0),
            (7, 5, "own", 1, "ab", 3),
        ]:
            with self.subTest(other=other):
                self.assertIs(could_join(self.NO_FILE, other), False)
                self.assertIs(could_join(other, self.NO_FILE), False)

    def test_the_one_ahead_differs(self):
        whole = (7, 5, "own", 1, "ab", 10)
        for one in [(4, 2, "own", 1, "ab", 7), (4, 4, "own", 1, "ab", 7), (5, 3, "own", 1, "ab", 7),
                    (4, 3, "own", 1, "ab", 8), (4, 3, "own", 1, "ab", 6), (3, 4, "own", 1, "ab", 7)]:
            with self.subTest(one=one):
                self.assertIs(could_join(one, whole), False)

    def test_with_itself(self):
        for plan in PLANS:
            for stretch in plan:
                self.assertIs(could_join(stretch, stretch), False)


class IsPlanTest(unittest.TestCase):
    def test_plans(self):
        for plan in PLANS:
            with self.subTest(plan=plan):
                before = list(plan)
                self.assertIs(is_plan(plan), True)
                self.assertEqual(plan, before)

    def test_a_gap_of_one_page_parts_two(self):
        self.assertIs(is_plan([(0, 3, "own", 1, None, 0), (4, 3, "own", 1, None, 0)]), True)
        self.assertIs(is_plan([(0, 3, "own", 1, "a", 0), (4, 3, "own", 1, "a", 3)]), True)

    def test_stretches_that_do_not_rise(self):
        for plan in PLANS:
            if len(plan) > 1:
                self.assertIs(is_plan(list(reversed(plan))), False)
        low, middle, high = (0, 1, "own", 1, None, 0), (5, 1, "own", 1, None, 0), (9, 1, "own", 1, None, 0)
        for some in [[high, low], [low, high, middle], [middle, low, high], [high, middle, low],
                     [high, low, middle]]:
            self.assertIs(is_plan(some), False)

    def test_a_page_in_common(self):
        for some in [
            [(0, 3, "own", 1, None, 0), (2, 3, "shared", 1, "a", 0)],
            [(0, 3, "own", 1, None, 0), (0, 3, "own", 1, None, 0)],
            [(0, 3, "own", 1, None, 0), (0, 1, "own", 2, None, 0)],
            [(0, 9, "own", 1, None, 0), (2, 1, "own", 2, None, 0)],
            [(0, 9, "own", 1, None, 0), (8, 1, "own", 2, None, 0)],
            [(254, 2, "own", 1, None, 0), (255, 1, "own", 2, None, 0)],
            [(0, 9, "own", 1, None, 0), (2, 1, "own", 2, None, 0), (5, 1, "own", 0, None, 0)],
        ]:
            with self.subTest(some=some):
                self.assertIs(is_plan(some), False)

    def test_neighbours_that_could_be_one(self):
        for some in [
            [(0, 3, "own", 1, None, 0), (3, 3, "own", 1, None, 0)],
            [(0, 3, "own", 1, "a", 5), (3, 3, "own", 1, "a", 8)],
            [(253, 2, "shared", 1, "a", 5), (255, 1, "shared", 1, "a", 7)],
            [(0, 1, "own", 0, None, 0), (1, 3, "own", 1, "a", 5), (4, 3, "own", 1, "a", 8)],
        ]:
            with self.subTest(some=some):
                self.assertIs(is_plan(some), False)


class StateTest(unittest.TestCase):
    def test_every_page_of_the_plans(self):
        for plan in PLANS:
            before = list(plan)
            with self.subTest(plan=plan):
                told = [state_at(plan, page) for page in range(PAGES)]
                self.assertEqual(told, states_of(plan))
                for state in told:
                    self.assertTrue(state is None or state.__class__ is tuple and len(state) == 4)
                self.assertEqual(plan, before)

    def test_the_edges_of_a_stretch(self):
        plan = [(10, 6, "own", 2, "ab", 5), (20, 3, "shared", 1, "z", FAR), (30, 2, "own", 0, None, 0)]
        for page, state in [
            (9, None), (10, ("own", 2, "ab", 5)), (15, ("own", 2, "ab", 10)), (16, None),
            (19, None), (20, ("shared", 1, "z", FAR)), (22, ("shared", 1, "z", FAR + 2)), (23, None),
            (29, None), (30, ("own", 0, None, 0)), (31, ("own", 0, None, 0)), (32, None),
        ]:
            with self.subTest(page=page):
                self.assertEqual(state_at(plan, page), state)

    def test_file_pages_near_the_end(self):
        plan = [(0, 256, "own", 2, "far", 10 ** 60 - 256)]
        self.assertEqual(state_at(plan, 0), ("own", 2, "far", 10 ** 60 - 256))
        self.assertEqual(state_at(plan, 1), ("own", 2, "far", 10 ** 60 - 255))
        self.assertEqual(state_at(plan, 255), ("own", 2, "far", 10 ** 60 - 1))


class CoversTest(unittest.TestCase):
    def test_ranges_of_the_plans(self):
        for plan in PLANS:
            before = list(plan)
            states = states_of(plan)
            for first, many in page_ranges(plan):
                with self.subTest(plan=plan, first=first, many=many):
                    self.assertIs(covers(plan, first, many), None not in states[first:first + many])
            self.assertEqual(plan, before)

    def test_one_page_alone_is_missing(self):
        for hole in [0, 1, 100, 254, 255]:
            plan = without([(0, 256, "own", 1, None, 0)], hole, 1)
            self.assertIs(covers(plan, 0, 256), False)
            self.assertIs(covers(plan, hole, 1), False)
            if hole > 0:
                self.assertIs(covers(plan, 0, hole), True)
            if hole < 255:
                self.assertIs(covers(plan, hole + 1, 255 - hole), True)

    def test_every_count_from_the_first_page(self):
        plan = [(page, 1, "own", page % 2, None, 0) for page in range(PAGES)]
        for many in range(1, 257):
            self.assertIs(covers(plan, 0, many), True)
            self.assertIs(covers(plan[:-1], 256 - many, many), False)


class NamesTest(unittest.TestCase):
    def test_names(self):
        for plan, names in [
            (PLANS[0], []), (PLANS[3], []), (PLANS[6], []), (PLANS[4], ["a"]), (PLANS[7], ["ab", "abc"]),
            (PLANS[8], ["zz"]),
            ([(0, 1, "own", 1, "c", 0), (1, 1, "own", 1, "a", 0), (2, 1, "own", 1, None, 0),
              (3, 1, "own", 1, "b", 0), (4, 1, "own", 1, "a", 0), (6, 1, "own", 1, "aa", 0)], ["a", "aa", "b", "c"]),
        ]:
            before = list(plan)
            with self.subTest(plan=plan):
                told = names_of(plan)
                self.assertEqual(told, names)
                self.assertIs(told.__class__, list)
                told.append("zzz")
                self.assertEqual(names_of(plan), names)
                self.assertEqual(plan, before)


class LaidTest(PlanCase):
    def test_told_plans(self):
        for plan, stretch, wanted in [
            ([], (0, 256, "own", 2, None, 0), [(0, 256, "own", 2, None, 0)]),
            ([(5, 2, "own", 1, None, 0)], (0, 2, "own", 1, None, 0),
             [(0, 2, "own", 1, None, 0), (5, 2, "own", 1, None, 0)]),
            ([(5, 2, "own", 1, None, 0)], (255, 1, "own", 1, None, 0),
             [(5, 2, "own", 1, None, 0), (255, 1, "own", 1, None, 0)]),
            ([(5, 2, "own", 1, None, 0), (20, 2, "own", 1, None, 0)], (10, 2, "own", 1, None, 0),
             [(5, 2, "own", 1, None, 0), (10, 2, "own", 1, None, 0), (20, 2, "own", 1, None, 0)]),
            ([(5, 2, "own", 1, None, 0)], (3, 2, "own", 1, None, 0), [(3, 4, "own", 1, None, 0)]),
            ([(5, 2, "own", 1, None, 0)], (7, 2, "own", 1, None, 0), [(5, 4, "own", 1, None, 0)]),
            ([(5, 2, "own", 1, "a", 9)], (3, 2, "own", 1, "a", 7), [(3, 4, "own", 1, "a", 7)]),
            ([(5, 2, "own", 1, "a", 9)], (3, 2, "own", 1, "a", 6),
             [(3, 2, "own", 1, "a", 6), (5, 2, "own", 1, "a", 9)]),
            ([(5, 2, "own", 1, "a", 9)], (7, 2, "own", 1, "a", 11), [(5, 4, "own", 1, "a", 9)]),
            ([(5, 2, "own", 1, "a", 9)], (7, 2, "own", 2, "a", 11),
             [(5, 2, "own", 1, "a", 9), (7, 2, "own", 2, "a", 11)]),
            ([(5, 2, "own", 1, None, 0), (8, 2, "own", 1, None, 0)], (7, 1, "own", 1, None, 0),
             [(5, 5, "own", 1, None, 0)]),
            ([(5, 2, "own", 1, "a", 0), (8, 2, "own", 1, "a", 3)], (7, 1, "own", 1, "a", 2),
             [(5, 5, "own", 1, "a", 0)]),
            ([(5, 2, "own", 1, "a", 0), (8, 2, "own", 1, "a", 4)], (7, 1, "own", 1, "a", 2),
             [(5, 3, "own", 1, "a", 0), (8, 2, "own", 1, "a", 4)]),
            ([(5, 2, "own", 1, "a", 0), (8, 2, "own", 1, "a", 4)], (7, 1, "own", 1, "a", 3),
             [(5, 2, "own", 1, "a", 0), (7, 3, "own", 1, "a", 3)]),
            ([(5, 2, "own", 1, "a", 0), (8, 2, "own", 1, "a", 3)], (7, 1, "shared", 1, "a", 2),
             [(5, 2, "own", 1, "a", 0), (7, 1, "shared", 1, "a", 2), (8, 2, "own", 1, "a", 3)]),
            ([(0, 255, "own", 1, None, 0)], (255, 1, "own", 1, None, 0), [(0, 256, "own", 1, None, 0)]),
        ]:
            with self.subTest(plan=plan, stretch=stretch):
                before = list(plan)
                told = laid(plan, stretch)
                self.assertEqual(told, wanted)
                self.assert_told_anew(told, plan, before)

    def test_every_free_range_of_the_plans(self):
        kinds = [("own", 2, None, 0), ("own", 1, None, 0), ("own", 2, "ab", 11), ("own", 2, "ab", 4),
                 ("shared", 1, "a", FAR), ("own", 1, "a", 0)]
        for plan in PLANS:
            before = list(plan)
            states = states_of(plan)
            for first, many in page_ranges(plan):
                for kind in kinds:
                    stretch = (first, many) + kind
                    with self.subTest(plan=plan, stretch=stretch):
                        if states[first:first + many] != [None] * many:
                            self.assert_refused(Taken, laid, plan, stretch)
                            continue
                        told = laid(plan, stretch)
                        wanted = states[:first] + states_of([stretch])[first:first + many] + states[first + many:]
                        self.assert_states(told, wanted)
                        self.assert_told_anew(told, plan, before)

    def test_taken_where_one_page_alone_is_mapped(self):
        for page in [0, 1, 100, 254, 255]:
            plan = [(page, 1, "own", 1, None, 0)]
            self.assert_refused(Taken, laid, plan, (0, 256, "own", 1, None, 0))
            self.assert_refused(Taken, laid, plan, (0, page + 1, "own", 2, None, 0))
            self.assert_refused(Taken, laid, plan, (page, 256 - page, "shared", 1, "a", 3))
            self.assert_refused(Taken, laid, plan, (page, 1, "own", 1, None, 0))

    def test_pages_one_by_one_in_any_order(self):
        plan = []
        states = [None] * PAGES
        for step in range(PAGES):
            page = step * 77 % PAGES
            plan = laid(plan, (page, 1, "own", 2, "a", page + 3))
            states[page] = ("own", 2, "a", page + 3)
            if step % 16 == 0:
                self.assert_states(plan, states)
        self.assertEqual(plan, [(0, 256, "own", 2, "a", 3)])


class WithoutTest(PlanCase):
    def test_told_plans(self):
        whole = [(0, 256, "own", 2, "a", 4)]
        for plan, first, many, wanted in [
            (whole, 0, 256, []),
            (whole, 0, 1, [(1, 255, "own", 2, "a", 5)]),
            (whole, 255, 1, [(0, 255, "own", 2, "a", 4)]),
            (whole, 100, 1, [(0, 100, "own", 2, "a", 4), (101, 155, "own", 2, "a", 105)]),
            ([(0, 9, "own", 2, None, 0)], 3, 2, [(0, 3, "own", 2, None, 0), (5, 4, "own", 2, None, 0)]),
            ([(0, 4, "own", 2, None, 0), (4, 4, "own", 1, None, 0), (8, 4, "own", 2, None, 0)], 4, 4,
             [(0, 4, "own", 2, None, 0), (8, 4, "own", 2, None, 0)]),
            ([(0, 4, "own", 2, None, 0), (4, 4, "own", 1, "b", 7), (8, 4, "own", 2, "c", FAR)], 2, 8,
             [(0, 2, "own", 2, None, 0), (10, 2, "own", 2, "c", FAR + 2)]),
        ]:
            with self.subTest(plan=plan, first=first, many=many):
                plan = list(plan)
                before = list(plan)
                told = without(plan, first, many)
                self.assertEqual(told, wanted)
                self.assert_told_anew(told, plan, before)

    def test_every_range_of_the_plans(self):
        for plan in PLANS:
            before = list(plan)
            states = states_of(plan)
            for first, many in page_ranges(plan):
                with self.subTest(plan=plan, first=first, many=many):
                    if None in states[first:first + many]:
                        self.assert_refused(NoPage, without, plan, first, many)
                        continue
                    told = without(plan, first, many)
                    self.assert_states(told, states[:first] + [None] * many + states[first + many:])
                    self.assert_told_anew(told, plan, before)

    def test_refused_where_one_page_alone_has_no_state(self):
        for hole in [0, 1, 100, 254, 255]:
            plan = without([(0, 256, "own", 1, None, 0)], hole, 1)
            self.assert_refused(NoPage, without, plan, 0, 256)
            self.assert_refused(NoPage, without, plan, hole, 1)
            self.assert_refused(NoPage, without, plan, 0, hole + 1)
            self.assert_refused(NoPage, without, plan, hole, 256 - hole)
        self.assert_refused(NoPage, without, [], 0, 1)
        self.assert_refused(NoPage, without, [], 255, 1)


class RightsTest(PlanCase):
    def test_told_plans(self):
        whole = [(0, 256, "own", 2, "a", 4)]
        parted = [(0, 4, "own", 2, None, 0), (4, 4, "own", 1, None, 0), (8, 4, "own", 2, None, 0)]
        for plan, first, many, rights, wanted in [
            (whole, 0, 256, 1, [(0, 256, "own", 1, "a", 4)]),
            (whole, 0, 256, 2, whole),
            (whole, 7, 3, 2, whole),
            (whole, 0, 1, 0, [(0, 1, "own", 0, "a", 4), (1, 255, "own", 2, "a", 5)]),
            (whole, 255, 1, 0, [(0, 255, "own", 2, "a", 4), (255, 1, "own", 0, "a", 259)]),
            (whole, 100, 1, 1, [(0, 100, "own", 2, "a", 4), (100, 1, "own", 1, "a", 104),
                                (101, 155, "own", 2, "a", 105)]),
            (parted, 4, 4, 2, [(0, 12, "own", 2, None, 0)]),
            (parted, 0, 4, 1, [(0, 8, "own", 1, None, 0), (8, 4, "own", 2, None, 0)]),
            (parted, 0, 12, 0, [(0, 12, "own", 0, None, 0)]),
            (parted, 2, 8, 1, [(0, 2, "own", 2, None, 0), (2, 8, "own", 1, None, 0), (10, 2, "own", 2, None, 0)]),
            (parted, 5, 1, 2, [(0, 4, "own", 2, None, 0), (4, 1, "own", 1, None, 0), (5, 1, "own", 2, None, 0),
                               (6, 2, "own", 1, None, 0), (8, 4, "own", 2, None, 0)]),
            ([(0, 2, "own", 1, "a", 3), (2, 2, "own", 2, "a", 5), (4, 2, "own", 1, "a", 8)], 2, 2, 1,
             [(0, 4, "own", 1, "a", 3), (4, 2, "own", 1, "a", 8)]),
            ([(0, 2, "own", 1, "a", 3), (2, 2, "shared", 2, "a", 5)], 0, 4, 0,
             [(0, 2, "own", 0, "a", 3), (2, 2, "shared", 0, "a", 5)]),
        ]:
            with self.subTest(plan=plan, first=first, many=many, rights=rights):
                plan = list(plan)
                before = list(plan)
                told = with_rights(plan, first, many, rights)
                self.assertEqual(told, wanted)
                self.assert_told_anew(told, plan, before)

    def test_every_range_of_the_plans(self):
        for plan in PLANS:
            before = list(plan)
            states = states_of(plan)
            for first, many in page_ranges(plan):
                for rights in range(3):
                    with self.subTest(plan=plan, first=first, many=many, rights=rights):
                        if None in states[first:first + many]:
                            self.assert_refused(NoPage, with_rights, plan, first, many, rights)
                            continue
                        told = with_rights(plan, first, many, rights)
                        wanted = list(states)
                        for page in range(first, first + many):
                            wanted[page] = (states[page][0], rights) + states[page][2:]
                        self.assert_states(told, wanted)
                        self.assert_told_anew(told, plan, before)

    def test_rights_there_and_back_tell_the_same_plan(self):
        plan = [(10, 20, "own", 2, "a", 5)]
        for first, many in [(10, 20), (10, 1), (29, 1), (15, 5)]:
            self.assertEqual(with_rights(with_rights(plan, first, many, 0), first, many, 2), plan)

    def test_refused_where_one_page_alone_has_no_state(self):
        for hole in [0, 1, 100, 254, 255]:
            plan = without([(0, 256, "own", 1, None, 0)], hole, 1)
            for rights in range(3):
                self.assert_refused(NoPage, with_rights, plan, 0, 256, rights)
                self.assert_refused(NoPage, with_rights, plan, hole, 1, rights)
                self.assert_refused(NoPage, with_rights, plan, 0, hole + 1, rights)
                self.assert_refused(NoPage, with_rights, plan, hole, 256 - hole, rights)
        self.assert_refused(NoPage, with_rights, [], 0, 1, 2)


if __name__ == "__main__":
    unittest.main()
