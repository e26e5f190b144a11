"""Points 1 to 3 over the whole program: long runs of drawn deeds against plain models."""

import random
import unittest

from helper import DEEDS, Drawn, Plain, Stepped, outcome, seen, told
from paneworks import errors
from paneworks.world import World, told_copies, told_holders, told_plan, told_spaces, told_ways

STEPS = 300
SIZES = [
    (1, 0, 1, 4), (1, 1, 2, 2), (1, 3, 1, 16), (1, 20, 3, 1), (1, 100, 2, 16), (2, 0, 2, 4), (2, 1, 1, 0), (2, 3, 3, 2),
    (2, 8, 2, 16), (2, 200, 8, 3), (3, 0, 1, 8), (3, 2, 2, 0), (3, 6, 4, 4), (3, 12, 2, 16), (4, 1, 3, 4), (4, 5, 1, 1),
    (4, 30, 2, 8), (5, 0, 2, 16), (5, 4, 5, 2), (5, 11, 2, 4), (5, 512, 8, 16),
]
REFUSALS = [errors.NoNumber, errors.NoSpace, errors.NoFile, errors.NoPage, errors.NoRight, errors.Taken, errors.Held,
            errors.Full]


def deeds_for(drawn):
    """So many deeds, each drawn when the ones ahead of it are done."""
    yield from drawn.beginning()
    for step in range(STEPS):
        yield drawn.a_deed()


def thing_of(world, space, page):
    """The thing of a page by what the world tells, or None of a blank page or one that is not mapped."""
    for number, sheet in told_ways(world, space):
        if number == page:
            return ("own", sheet)
    for first, many, kind, rights, name, start in told_plan(world, space):
        if first <= page < first + many and name is not None:
            return ("file", name, start + page - first)
    return None


def state_of(world, space, page):
    for first, many, kind, rights, name, start in told_plan(world, space):
        if first <= page < first + many:
            return (kind, rights)
    return None


class RunCase(unittest.TestCase):
    def assert_lies_once(self, now):
        """Each sheet of a way lies in one frame or on one place, no other sheet anywhere, and no thing twice."""
        things = [thing for thing in now["frames"] if thing is not None]
        self.assertEqual(len(set(things)), len(things))
        lying = [thing[1] for thing in things if thing[0] == "own"]
        lying += [sheet for sheet in now["shelf"] if sheet is not None]
        named = {sheet for ways in now["ways"].values() for page, sheet in ways}
        self.assertEqual(sorted(lying), sorted(named))
        return named

    def assert_counted(self, world, now, last):
        """The holders are those of walking all tables."""
        walked = [sheet for ways in now["ways"].values() for page, sheet in ways]
        for sheet in range(last + 2):
            self.assertEqual(told_holders(world, sheet), walked.count(sheet))

    def assert_books_are_true(self, world, now, slots):
        for ways in now["books"]:
            self.assertLessEqual(len(ways), slots)
            self.assertEqual(len({way[:2] for way in ways}), len(ways))
            for space, page, frame, mark in ways:
                self.assertIn(space, now["spaces"])
                thing = thing_of(world, space, page)
                self.assertIsNotNone(thing)
                self.assertEqual(now["frames"][frame], thing)
                kind, rights = state_of(world, space, page)
                self.assertGreaterEqual(rights, mark)
                if mark == 2 and kind == "own":
                    self.assertEqual(thing[0], "own")
                    self.assertEqual(told_holders(world, thing[1]), 1)

    def assert_sound(self, world, size, last):
        now = told(world)
        many, places, hands, slots = size
        named = self.assert_lies_once(now)
        self.assert_counted(world, now, last)
        self.assert_books_are_true(world, now, slots)
        self.assertEqual(now["room"], many - 1 + places - len(named))
        self.assertGreaterEqual(now["room"], 0)


class PlainRunTest(RunCase):
    def test_as_if_each_space_kept_its_own_pages_by_themselves(self):
        met = set()
        for seed, size in enumerate(SIZES):
            with self.subTest(size=size):
                world = World(*size)
                model = Plain(*size)
                for deed in deeds_for(Drawn(random.Random(seed), model)):
                    before = seen(world)
                    answer = outcome(DEEDS[deed[0]], world, *deed[1:])
                    self.assertEqual(answer, outcome(getattr(model, deed[0]), *deed[1:]), deed)
                    met.add(answer[1] if answer[0] == "refused" else deed[0])
                    if answer[0] == "refused":
                        self.assertEqual(seen(world), before)
                    self.assert_sound(world, size, model.sheets_made)
                    self.assertEqual(told_spaces(world), sorted(model.spaces))
                    for space in model.spaces:
                        self.assertEqual(told_plan(world, space), model.plan(space))
                        self.assertEqual(told_ways(world, space), model.ways(space))
                    self.assertEqual(told_copies(world), model.copies)
                self.assert_all_is_read_again(world, model)
        self.assertEqual(met, set(DEEDS) | set(REFUSALS))

    def assert_all_is_read_again(self, world, model):
        for name in model.files:
            self.assertEqual(DEEDS["told_file"](world, name), model.files[name])
        for space, pages in model.spaces.items():
            for page in pages:
                answer = outcome(DEEDS["read_cells"], world, 0, space, 4 * page, 4)
                self.assertEqual(answer, outcome(model.read_cells, 0, space, 4 * page, 4))


class SteppedRunTest(RunCase):
    def test_all_lies_where_the_steps_put_it(self):
        for seed, size in enumerate(SIZES, start=100):
            with self.subTest(size=size):
                world = World(*size)
                model = Stepped(*size)
                for deed in deeds_for(Drawn(random.Random(seed), model)):
                    answer = outcome(DEEDS[deed[0]], world, *deed[1:])
                    self.assertEqual(answer, outcome(getattr(model, deed[0]), *deed[1:]), deed)
                    now = told(world)
                    now.pop("holders")
                    self.assertEqual(now, model.told(), deed)


class OtherNumbersTest(RunCase):
    """The same deeds in worlds with other numbers of frames, hands and slots, and as much room."""

    def run_of(self, deeds, size):
        world = World(*size)
        answers = []
        for deed in deeds:
            if deed[0] in ("read_cells", "write_cells") and 0 <= deed[1] < 8:
                deed = (deed[0], deed[1] % size[2]) + deed[2:]
            now = told(world)
            answers.append((outcome(DEEDS[deed[0]], world, *deed[1:]), now["plans"], now["ways"], now["copies"]))
        now = told(world)
        return answers + [(now["spaces"], now["plans"], now["ways"], now["copies"], now["room"])]

    def test_they_answer_the_same(self):
        for seed, room in enumerate([0, 1, 3, 7, 12, 30, 100], start=200):
            model = Plain(1, room, 8, 0)
            deeds = []
            for deed in deeds_for(Drawn(random.Random(seed), model)):
                deeds.append(deed)
                outcome(getattr(model, deed[0]), *deed[1:])
            wanted = self.run_of(deeds, (1, room, 1, 0))
            for hands, slots in [(8, 16), (3, 2), (1, 1)]:
                for many in (1, 2, 3, 5, 64):
                    if many - 1 <= room:
                        with self.subTest(room=room, many=many, hands=hands, slots=slots):
                            size = (many, room - many + 1, hands, slots)
                            self.assertEqual(self.run_of(deeds, size), wanted)


class ErrorsTest(unittest.TestCase):
    def test_no_class_stands_under_another(self):
        for one in REFUSALS + [errors.NoRow]:
            self.assertEqual(one.__bases__, (errors.PaneError,))


if __name__ == "__main__":
    unittest.main()
