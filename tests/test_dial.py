import inspect
import itertools
import unittest

from paneworks.dial import Dial
from paneworks.errors import Full
from paneworks.places import is_whole

ARGUMENTS = {"pointer": [], "touch": ["frame"], "clear": ["frame"], "marks": [], "choose": ["may"]}


def turned(pointer, marks, may):
    """Walks frame by frame, as the promise tells it: the frame chosen, the pointer and the marks then."""
    marks = list(marks)
    frame = pointer
    while True:
        behind = 0 if frame == len(marks) - 1 else frame + 1
        if may[frame] and not marks[frame]:
            return frame, behind, marks
        if may[frame]:
            marks[frame] = False
        frame = behind


def dial_at(many, pointer, marks):
    dial = Dial(many)
    for step in range(pointer):
        dial.choose([True] * many)
    for frame, mark in enumerate(marks):
        if mark:
            dial.touch(frame)
    return dial


class DialCase(unittest.TestCase):
    def assert_dial(self, dial, pointer, marks):
        self.assertEqual(dial.pointer(), pointer)
        self.assertIs(is_whole(dial.pointer()), True)
        told = dial.marks()
        self.assertIs(told.__class__, list)
        self.assertEqual(len(told), len(marks))
        for mark, wanted in zip(told, marks):
            self.assertIs(mark, wanted)

    def assert_chosen(self, dial, may, frame):
        before = list(may)
        told = dial.choose(may)
        self.assertEqual(told, frame)
        self.assertIs(is_whole(told), True)
        self.assertEqual(may, before)

    def assert_full(self, dial, may):
        pointer, marks, before = dial.pointer(), dial.marks(), list(may)
        with self.assertRaises(Full) as caught:
            dial.choose(may)
        self.assertIs(caught.exception.__class__, Full)
        self.assert_dial(dial, pointer, marks)
        self.assertEqual(may, before)


class InterfaceTest(unittest.TestCase):
    def test_names_and_arguments(self):
        self.assertEqual(list(inspect.signature(Dial).parameters), ["many"])
        for name, arguments in ARGUMENTS.items():
            with self.subTest(name=name):
                self.assertEqual(list(inspect.signature(getattr(Dial(1), name)).parameters), arguments)


class MarksTest(DialCase):
    def test_at_first(self):
        for many in [1, 2, 3, 63, 64]:
            self.assert_dial(Dial(many), 0, [False] * many)

    def test_touch_and_clear(self):
        for many in [1, 2, 64]:
            for frame in sorted({0, many // 2, many - 1}):
                dial = Dial(many)
                marks = [False] * many
                dial.clear(frame)
                self.assert_dial(dial, 0, marks)
                for step in range(2):
                    dial.touch(frame)
                    self.assert_dial(dial, 0, marks[:frame] + [True] + marks[frame + 1:])
                for step in range(2):
                    dial.clear(frame)
                    self.assert_dial(dial, 0, marks)

    def test_clear_takes_one_mark_alone(self):
        dial = dial_at(4, 0, [True] * 4)
        dial.clear(2)
        self.assert_dial(dial, 0, [True, True, False, True])

    def test_told_marks_are_the_askers_own(self):
        dial = Dial(2)
        told = dial.marks()
        told[0] = True
        told.append(True)
        self.assert_dial(dial, 0, [False, False])
        told = dial.marks()
        dial.touch(1)
        self.assertEqual(told, [False, False])

    def test_dials_made_apart_have_nothing_in_common(self):
        one = Dial(3)
        other = Dial(3)
        one.touch(1)
        one.choose([True] * 3)
        self.assert_dial(other, 0, [False] * 3)
        other.touch(2)
        other.choose([False, True, True])
        self.assert_dial(one, 1, [False, True, False])
        self.assert_dial(other, 2, [False, False, True])


class ChooseTest(DialCase):
    def test_every_state_of_small_dials(self):
        for many in [1, 2, 3, 4]:
            for marks in itertools.product([False, True], repeat=many):
                for may in itertools.product([False, True], repeat=many):
                    for pointer in range(many):
                        with self.subTest(marks=marks, may=may, pointer=pointer):
                            dial = dial_at(many, pointer, marks)
                            self.assert_dial(dial, pointer, marks)
                            if not any(may):
                                self.assert_full(dial, list(may))
                                continue
                            frame, behind, left = turned(pointer, marks, may)
                            self.assert_chosen(dial, list(may), frame)
                            self.assert_dial(dial, behind, left)

    def test_without_marks_each_in_its_turn(self):
        for many in [1, 2, 64]:
            dial = Dial(many)
            for step in range(3 * many):
                self.assert_chosen(dial, [True] * many, step % many)
                self.assert_dial(dial, (step + 1) % many, [False] * many)

    def test_all_marks(self):
        for many in [1, 2, 64]:
            for pointer in sorted({0, many // 2, many - 1}):
                dial = dial_at(many, pointer, [True] * many)
                self.assert_chosen(dial, [True] * many, pointer)
                self.assert_dial(dial, (pointer + 1) % many, [False] * many)

    def test_some_marks(self):
        dial = dial_at(5, 0, [True, True, False, True, False])
        self.assert_chosen(dial, [True] * 5, 2)
        self.assert_dial(dial, 3, [False, False, False, True, False])
        self.assert_chosen(dial, [True] * 5, 4)
        self.assert_dial(dial, 0, [False] * 5)

    def test_those_that_may_not_go_keep_their_marks(self):
        dial = dial_at(4, 1, [True, True, True, False])
        self.assert_chosen(dial, [False, False, True, False], 2)
        self.assert_dial(dial, 3, [True, True, False, False])

    def test_all_that_may_go_have_the_mark(self):
        dial = dial_at(4, 1, [True, True, True, True])
        self.assert_chosen(dial, [True, False, True, False], 2)
        self.assert_dial(dial, 3, [False, True, False, True])
        dial = dial_at(64, 63, [True] * 64)
        self.assert_chosen(dial, [frame == 62 for frame in range(64)], 62)
        self.assert_dial(dial, 63, [frame != 62 for frame in range(64)])

    def test_the_pointer_behind_the_last_frame(self):
        for many in [1, 2, 64]:
            dial = Dial(many)
            self.assert_chosen(dial, [False] * (many - 1) + [True], many - 1)
            self.assert_dial(dial, 0, [False] * many)

    def test_frames_that_are_passed_by_need_no_second_look(self):
        dial = dial_at(3, 2, [False, True, True])
        self.assert_chosen(dial, [True, True, True], 0)
        self.assert_dial(dial, 1, [False, True, False])

    def test_full_where_none_may_go(self):
        for many in [1, 2, 64]:
            for marks in [[False] * many, [True] * many, [frame % 2 == 0 for frame in range(many)]]:
                for pointer in sorted({0, many - 1}):
                    dial = dial_at(many, pointer, marks)
                    self.assert_full(dial, [False] * many)
                    self.assert_dial(dial, pointer, marks)

    def test_a_long_run_over_sixty_four(self):
        dial = Dial(64)
        pointer, marks = 0, [False] * 64
        for step in range(600):
            frame = step * 29 % 64
            dial.touch(frame)
            marks[frame] = True
            if step % 3 == 0:
                may = [(one * 7 + step) % 5 != 0 for one in range(64)]
                frame, pointer, marks = turned(pointer, marks, may)
                self.assert_chosen(dial, may, frame)
            self.assert_dial(dial, pointer, marks)


if __name__ == "__main__":
    unittest.main()
