import inspect
import unittest

from paneworks.frames import Frames
from paneworks.places import is_whole

MOST = 10 ** 60 - 1
LEAST = 1 - 10 ** 60
ARGUMENTS = {
    "fill": ["frame", "thing", "row"],
    "empty": ["frame"],
    "thing_in": ["frame"],
    "row_in": ["frame"],
    "put_in": ["frame", "cell", "numbers"],
    "is_soiled": ["frame"],
    "least_free": [],
    "where": ["thing"],
    "things": [],
}
ALIKE = [("own", 1), ("own", 2), ("own", 12), ("own", MOST), ("file", "a", 0), ("file", "a", 1), ("file", "a", 63),
         ("file", "b", 0), ("file", "ab", 0), ("file", "ba", 0), ("file", "abcdefgh", 1), ("file", "abcdefgi", 1)]


class FramesCase(unittest.TestCase):
    def assert_frames(self, frames, wanted):
        """What is wanted of each frame: None, or a tuple (thing, row, soiled)."""
        things = [None if one is None else one[0] for one in wanted]
        told = frames.things()
        self.assertEqual(told, things)
        self.assertIs(told.__class__, list)
        for frame, one in enumerate(wanted):
            self.assertEqual(frames.thing_in(frame), things[frame])
            self.assertIs(frames.is_soiled(frame), one is not None and one[2])
            if one is not None:
                self.assertEqual(frames.row_in(frame), one[1])
                self.assertIs(frames.row_in(frame).__class__, list)
                self.assertIs(frames.thing_in(frame).__class__, tuple)
        free = frames.least_free()
        self.assertEqual(free, things.index(None) if None in things else None)
        self.assertTrue(free is None or is_whole(free))
        for thing in ALIKE:
            where = frames.where(thing)
            self.assertEqual(where, things.index(thing) if thing in things else None)
            self.assertTrue(where is None or is_whole(where))


class InterfaceTest(unittest.TestCase):
    def test_names_and_arguments(self):
        self.assertEqual(list(inspect.signature(Frames).parameters), ["many"])
        for name, arguments in ARGUMENTS.items():
            with self.subTest(name=name):
                self.assertEqual(list(inspect.signature(getattr(Frames(1), name)).parameters), arguments)


class FillTest(FramesCase):
    def test_all_are_free_at_first(self):
        for many in [1, 2, 64]:
            self.assert_frames(Frames(many), [None] * many)

    def test_filled_written_emptied_and_filled_anew(self):
        for many in [1, 2, 64]:
            for frame in sorted({0, many // 2, many - 1}):
                for step, thing in enumerate(ALIKE):
                    with self.subTest(many=many, frame=frame, thing=thing):
                        frames = Frames(many)
                        wanted = [None] * many
                        row = [step, MOST, LEAST, -step]
                        frames.fill(frame, thing, row)
                        wanted[frame] = (thing, row, False)
                        self.assert_frames(frames, wanted)
                        frames.put_in(frame, 1, [7, 8])
                        wanted[frame] = (thing, [step, 7, 8, -step], True)
                        self.assert_frames(frames, wanted)
                        frames.empty(frame)
                        wanted[frame] = None
                        self.assert_frames(frames, wanted)
                        frames.fill(frame, thing, [0, 0, 0, 0])
                        wanted[frame] = (thing, [0, 0, 0, 0], False)
                        self.assert_frames(frames, wanted)

    def test_many_frames_at_once(self):
        frames = Frames(64)
        wanted = [None] * 64
        for step in range(64):
            frame = step * 29 % 64
            thing = ("own", 100 + step) if step % 2 else ("file", "abc", step)
            frames.fill(frame, thing, [step] * 4)
            wanted[frame] = (thing, [step] * 4, False)
            self.assert_frames(frames, wanted)
        for frame in range(0, 64, 3):
            frames.put_in(frame, frame % 4, [LEAST])
            row = list(wanted[frame][1])
            row[frame % 4] = LEAST
            wanted[frame] = (wanted[frame][0], row, True)
        self.assert_frames(frames, wanted)
        for frame in range(63, -1, -5):
            frames.empty(frame)
            wanted[frame] = None
            self.assert_frames(frames, wanted)

    def test_things_alike_but_for_one_sign(self):
        frames = Frames(len(ALIKE))
        for frame, thing in enumerate(ALIKE):
            self.assertIsNone(frames.where(thing))
            frames.fill(frame, thing, [frame] * 4)
            self.assertEqual(frames.where(thing), frame)
        self.assert_frames(frames, [(thing, [frame] * 4, False) for frame, thing in enumerate(ALIKE)])
        for gone, thing in enumerate(ALIKE):
            frames.empty(gone)
            self.assertIsNone(frames.where(thing))
            self.assertEqual([frames.where(other) for other in ALIKE],
                             [None if frame == gone else frame for frame in range(len(ALIKE))])
            frames.fill(gone, thing, [0, 0, 0, 0])

    def test_a_thing_that_has_gone_and_comes_elsewhere(self):
        frames = Frames(2)
        frames.fill(0, ("own", 1), [1, 2, 3, 4])
        frames.empty(0)
        self.assertIsNone(frames.where(("own", 1)))
        frames.fill(1, ("own", 1), [1, 2, 3, 4])
        self.assertEqual(frames.where(("own", 1)), 1)
        self.assert_frames(frames, [None, (("own", 1), [1, 2, 3, 4], False)])

    def test_the_least_free_with_gaps(self):
        frames = Frames(4)
        for frame in range(4):
            self.assertEqual(frames.least_free(), frame)
            frames.fill(frame, ("own", frame + 1), [0, 0, 0, 0])
        self.assertIsNone(frames.least_free())
        for gone, least in [(3, 3), (1, 1), (2, 1), (0, 0)]:
            frames.empty(gone)
            self.assertEqual(frames.least_free(), least)
        frames.fill(0, ("own", 1), [0, 0, 0, 0])
        frames.fill(2, ("own", 2), [0, 0, 0, 0])
        self.assertEqual(frames.least_free(), 1)


class SoiledTest(FramesCase):
    def test_put_in_from_each_cell(self):
        for cell in range(4):
            for many in range(1, 5 - cell):
                for numbers in [[MOST, LEAST, 0, -7][:many], [10, 20, 30, 40][cell:cell + many]]:
                    with self.subTest(cell=cell, numbers=numbers):
                        frames = Frames(2)
                        frames.fill(0, ("own", 1), [1, 2, 3, 4])
                        frames.fill(1, ("file", "a", 0), [10, 20, 30, 40])
                        handed = list(numbers)
                        frames.put_in(1, cell, handed)
                        self.assertEqual(handed, numbers)
                        wanted = [10, 20, 30, 40]
                        wanted[cell:cell + many] = numbers
                        self.assert_frames(frames, [(("own", 1), [1, 2, 3, 4], False),
                                                    (("file", "a", 0), wanted, True)])

    def test_soiled_until_it_is_emptied(self):
        frames = Frames(1)
        self.assertIs(frames.is_soiled(0), False)
        frames.fill(0, ("file", "a", 0), [1, 2, 3, 4])
        self.assertIs(frames.is_soiled(0), False)
        frames.put_in(0, 0, [1])
        self.assertIs(frames.is_soiled(0), True)
        frames.put_in(0, 3, [4])
        self.assertIs(frames.is_soiled(0), True)
        frames.row_in(0)
        frames.things()
        self.assertIs(frames.is_soiled(0), True)
        frames.empty(0)
        self.assertIs(frames.is_soiled(0), False)
        frames.fill(0, ("file", "a", 0), [1, 2, 3, 4])
        self.assertIs(frames.is_soiled(0), False)

    def test_one_laid_behind_another(self):
        frames = Frames(1)
        frames.fill(0, ("own", 5), [0, 0, 0, 0])
        frames.put_in(0, 0, [1, 2])
        frames.put_in(0, 1, [3, 4])
        frames.put_in(0, 3, [5])
        self.assert_frames(frames, [(("own", 5), [1, 3, 4, 5], True)])


class ApartTest(FramesCase):
    def test_what_is_handed_in_is_not_kept(self):
        frames = Frames(1)
        row = [1, 2, 3, 4]
        frames.fill(0, ("own", 1), row)
        self.assertEqual(row, [1, 2, 3, 4])
        row[0] = 90
        row.append(91)
        self.assert_frames(frames, [(("own", 1), [1, 2, 3, 4], False)])
        row = [1, 2, 3, 4]
        frames.empty(0)
        frames.fill(0, ("own", 1), row)
        numbers = [5, 6, 7, 8]
        frames.put_in(0, 0, numbers)
        self.assertEqual(row, [1, 2, 3, 4])
        self.assertEqual(numbers, [5, 6, 7, 8])
        numbers[1] = 92
        self.assert_frames(frames, [(("own", 1), [5, 6, 7, 8], True)])
        frames.put_in(0, 0, [0])
        self.assertEqual(numbers, [5, 92, 7, 8])

    def test_told_lists_are_the_askers_own(self):
        frames = Frames(2)
        frames.fill(0, ("own", 1), [1, 2, 3, 4])
        row = frames.row_in(0)
        row[0] = 90
        row.append(91)
        things = frames.things()
        things[1] = ("own", 2)
        things.append(None)
        self.assert_frames(frames, [(("own", 1), [1, 2, 3, 4], False), None])
        row = frames.row_in(0)
        things = frames.things()
        frames.put_in(0, 0, [7, 7, 7, 7])
        frames.fill(1, ("own", 2), [0, 0, 0, 0])
        frames.empty(0)
        self.assertEqual(row, [1, 2, 3, 4])
        self.assertEqual(things, [("own", 1), None])

    def test_frames_made_apart_have_nothing_in_common(self):
        one = Frames(2)
        other = Frames(2)
        one.fill(0, ("own", 1), [1, 2, 3, 4])
        one.put_in(0, 0, [9])
        self.assert_frames(other, [None, None])
        other.fill(0, ("own", 1), [5, 6, 7, 8])
        other.fill(1, ("file", "a", 0), [0, 0, 0, 0])
        one.empty(0)
        self.assert_frames(one, [None, None])
        self.assert_frames(other, [(("own", 1), [5, 6, 7, 8], False), (("file", "a", 0), [0, 0, 0, 0], False)])


if __name__ == "__main__":
    unittest.main()
