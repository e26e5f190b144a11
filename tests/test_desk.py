import inspect
import unittest

from helper import NO_NUMBERS, seen
from paneworks.desk import Desk
from paneworks.errors import Full, Held, NoFile, NoNumber, NoPage, NoRight, NoRow, NoSpace, Taken

BOUNDS = [(1, 64), (0, 512), (1, 8), (0, 16)]
MOST = "9" * 60


def numbers(many, begin=1):
    return " ".join(str(begin + at) for at in range(many))


def desk_in_use():
    """Space 1 with pages 0 to 3 of its own, 4 and 5 shared; the file a of two rows; two hands."""
    desk = Desk(3, 6, 2, 4)
    for row in ["make", "file a " + numbers(8, 100), "map 1 0 4 own 2", "map 1 4 2 shared 2 a 0",
                "write 0 1 0 11 12 13 14 15"]:
        desk.say(row)
    return desk


class DeskCase(unittest.TestCase):
    def assert_said(self, desk, row, answer):
        told = desk.say(row)
        self.assertIs(told.__class__, str)
        self.assertEqual(told, answer)

    def assert_refused(self, refusal, desk, row):
        before = seen(desk.world)
        with self.subTest(row=repr(row)[:80]):
            with self.assertRaises(refusal) as caught:
                desk.say(row)
            self.assertIs(caught.exception.__class__, refusal)
            self.assertEqual(seen(desk.world), before)


class InterfaceTest(DeskCase):
    def test_names_and_arguments(self):
        self.assertEqual(list(inspect.signature(Desk).parameters), ["many", "places", "hands", "slots"])
        self.assertEqual(list(inspect.signature(Desk.say).parameters), ["self", "row"])

    def test_at_the_bounds_and_beyond(self):
        for place, (low, high) in enumerate(BOUNDS):
            for good in (low, high):
                handed = [3, 4, 2, 5]
                handed[place] = good
                self.assert_said(Desk(*handed), "room", str(handed[0] - 1 + handed[1]))
            for wrong in [low - 1, high + 1, 10 ** 80, -10 ** 80] + NO_NUMBERS:
                handed = [3, 4, 2, 5]
                handed[place] = wrong
                with self.assertRaises(NoNumber) as caught:
                    Desk(*handed)
                self.assertIs(caught.exception.__class__, NoNumber)

    def test_desks_made_apart_have_nothing_in_common(self):
        one = desk_in_use()
        other = Desk(3, 6, 2, 4)
        self.assert_said(other, "spaces", "")
        self.assert_said(other, "make", "1")
        one.say("end 1")
        self.assert_said(other, "spaces", "1")
        self.assert_refused(NoFile, other, "tell a")


class AnswerTest(DeskCase):
    def test_spaces(self):
        desk = Desk(2, 2, 1, 1)
        for row, answer in [("spaces", ""), ("make", "1"), ("make", "2"), ("fork 1", "3"), ("spaces", "1 2 3"),
                            ("end 2", "ok"), ("spaces", "1 3"), ("fork 3", "4"), ("make", "5"), ("end 1", "ok"),
                            ("spaces", "3 4 5"), ("end 5", "ok"), ("end 4", "ok"), ("end 3", "ok"), ("spaces", "")]:
            self.assert_said(desk, row, answer)

    def test_ten_spaces_rise_by_their_numbers(self):
        desk = Desk(1, 0, 1, 0)
        for space in range(1, 13):
            self.assert_said(desk, "make", str(space))
        self.assert_said(desk, "spaces", "1 2 3 4 5 6 7 8 9 10 11 12")

    def test_maps(self):
        desk = Desk(2, 2, 1, 1)
        for row, answer in [
            ("make", "1"), ("file a " + numbers(32), "ok"), ("map 1 0 4 own 2", "ok"), ("map 1 4 2 own 1 a 3", "ok"),
            ("map 1 6 2 shared 0 a 6", "ok"), ("map 1 255 1 own 0", "ok"), ("rights 1 1 5 0", "ok"),
            ("unmap 1 2 2", "ok"),
        ]:
            self.assert_said(desk, row, answer)
        self.assertEqual(seen(desk.world)["plans"], {1: [
            (0, 1, "own", 2, None, 0), (1, 1, "own", 0, None, 0), (4, 2, "own", 0, "a", 3),
            (6, 2, "shared", 0, "a", 6), (255, 1, "own", 0, None, 0)]})

    def test_files(self):
        desk = Desk(2, 2, 1, 1)
        for name, many in [("a", 4), ("b", 8), ("abcdefgh", 12), ("z", 252), ("zz", 256)]:
            self.assert_said(desk, f"file {name} {numbers(many, -3)}", "ok")
            self.assert_said(desk, "tell " + name, numbers(many, -3))
            self.assertEqual(len(seen(desk.world)["files"][name]), many // 4)
        self.assert_said(desk, "drop b", "ok")
        self.assert_refused(NoFile, desk, "tell b")
        self.assert_said(desk, "file b 0 0 0 -1", "ok")
        self.assert_said(desk, "tell b", "0 0 0 -1")

    def test_a_file_is_told_as_it_is_now(self):
        desk = desk_in_use()
        self.assert_said(desk, "tell a", "100 101 102 103 104 105 106 107")
        self.assert_said(desk, "write 1 1 19 5 -6", "ok")
        self.assert_said(desk, "tell a", "100 101 102 5 -6 105 106 107")
        self.assert_said(desk, "write 1 1 16 0 " + MOST + " -" + MOST, "ok")
        self.assert_said(desk, "tell a", "0 " + MOST + " -" + MOST + " 5 -6 105 106 107")

    def test_reads_and_writes(self):
        desk = desk_in_use()
        for row, answer in [
            ("read 0 1 0 8", "11 12 13 14 15 0 0 0"), ("read 1 1 3 2", "14 15"), ("read 0 1 0 0", ""),
            ("read 1 1 1023 0", ""), ("write 0 1 1023", "ok"), ("write 1 1 6 -1 0", "ok"), ("read 0 1 4 4", "15 0 -1 0"),
            ("read 0 1 7 1", "0"), ("write 0 1 15 " + numbers(9), "ok"), ("read 1 1 12 12", "0 0 0 1 2 3 4 5 6 7 8 9"),
        ]:
            self.assert_said(desk, row, answer)

    def test_64_numbers(self):
        desk = Desk(3, 20, 1, 4)
        desk.say("make")
        desk.say("map 1 0 256 own 2")
        self.assert_said(desk, "write 0 1 3 " + numbers(64), "ok")
        self.assert_said(desk, "read 0 1 3 64", numbers(64))
        self.assert_said(desk, "write 0 1 0", "ok")

    def test_counts(self):
        desk = desk_in_use()
        for row, answer in [
            ("walks 0", "2"), ("walks 1", "0"), ("copies", "0"), ("room", "6"), ("fork 1", "2"),
            ("write 1 2 0 5", "ok"), ("copies", "1"), ("walks 1", "1"), ("room", "5"), ("read 0 1 12 1", "0"),
            ("walks 0", "3"), ("end 1", "ok"), ("end 2", "ok"), ("room", "8"), ("copies", "1"),
        ]:
            self.assert_said(desk, row, answer)


class NoRowTest(DeskCase):
    ROWS = ["make", "fork 1", "end 1", "map 1 8 2 own 2", "map 1 8 2 own 2 a 0", "map 1 8 2 shared 2 a 0",
            "rights 1 0 1 2", "unmap 1 0 1", "file b 1 2 3 4", "drop a", "tell a", "read 0 1 0 1", "write 0 1 0 5",
            "walks 0", "copies", "room", "spaces"]

    def test_each_row_is_one(self):
        for row in self.ROWS:
            desk = desk_in_use()
            if row == "drop a":
                desk.say("unmap 1 4 2")
            desk.say(row)

    def test_blanks(self):
        for row in self.ROWS:
            desk = desk_in_use()
            words = row.split(" ")
            wrong = [" " + row, row + " ", "  " + row, row + "  ", row + "\n", "\n" + row, row + "\t", row + "\r",
                     row + "\x00", row + "\u00a0"]
            for at in range(1, len(words)):
                for between in ["  ", "\t", "\n", " \t", "\u00a0", "   ", ",", "_"]:
                    wrong.append(" ".join(words[:at]) + between + " ".join(words[at:]))
            for one in wrong:
                self.assert_refused(NoRow, desk, one)

    def test_a_word_too_few(self):
        desk = desk_in_use()
        # A write of one number less is a write.
        for row in self.ROWS:
            words = row.split(" ")
            for gone in range(len(words)):
                left = words[:gone] + words[gone + 1:]
                if words[0] != "write" or gone == 0:
                    self.assert_refused(NoRow, desk, " ".join(left))
        for row in ["write", "write 0", "write 0 1"]:
            self.assert_refused(NoRow, desk, row)

    def test_a_word_too_many(self):
        desk = desk_in_use()
        for row in self.ROWS:
            for more in ["0", "a", "ok", "0 0"]:
                if row.split(" ")[0] == "write" and more != "a" and more != "ok":
                    continue
                self.assert_refused(NoRow, desk, row + " " + more)
        self.assert_refused(NoRow, desk, "map 1 8 2 own 2 a")
        self.assert_refused(NoRow, desk, "map 1 8 2 own 2 a 0 0")
        self.assert_refused(NoRow, desk, "map 1 8 2 shared 2")
        self.assert_refused(NoRow, desk, "map 1 8 2 shared 2 a")
        self.assert_refused(NoRow, desk, "map 1 8 2 own")
        self.assert_refused(NoRow, desk, "map")

    def test_another_first_word(self):
        desk = desk_in_use()
        for row in self.ROWS:
            words = row.split(" ")
            for first in [words[0].upper(), words[0].capitalize(), words[0] + "s", words[0][:-1], "say", "1", "-", "ok",
                          "told_" + words[0], words[0] + "\n"]:
                if first != words[0]:
                    self.assert_refused(NoRow, desk, " ".join([first] + words[1:]))

    def test_a_number_that_is_none(self):
        desk = desk_in_use()
        for row in self.ROWS:
            words = row.split(" ")
            for at, word in enumerate(words):
                if not word.isdigit():
                    continue
                for wrong in ["-0", "00", "0" + word, "+" + word, word + ".", "1_0", "x", "a", "\u0661", "-", "--1",
                              word + "\n", "1" * 61, "-" + "1" * 61, "", "1 ", "None"]:
                    self.assert_refused(NoRow, desk, " ".join(words[:at] + [wrong] + words[at + 1:]))

    def test_a_name_that_is_none(self):
        desk = desk_in_use()
        for row in self.ROWS:
            words = row.split(" ")
            for at, word in enumerate(words[1:], start=1):
                if word not in ("a", "b"):
                    continue
                for wrong in ["A", "aA", "abcdefghi", "a1", "1", "a-", "\u00e4", "a\n", "", "-1", "_", "a_b"]:
                    self.assert_refused(NoRow, desk, " ".join(words[:at] + [wrong] + words[at + 1:]))

    def test_a_kind_that_is_none(self):
        desk = desk_in_use()
        for kind in ["Own", "OWN", "shares", "owns", "Shared", "0", "", "a", "own\n", "none"]:
            self.assert_refused(NoRow, desk, f"map 1 8 2 {kind} 2")
            self.assert_refused(NoRow, desk, f"map 1 8 2 {kind} 2 a 0")

    def test_how_many_numbers(self):
        desk = Desk(3, 20, 1, 4)
        desk.say("make")
        desk.say("map 1 0 256 own 2")
        for many in [0, 1, 2, 3, 5, 6, 7, 9, 255, 257, 260, 1000]:
            row = "file b " + numbers(many) if many else "file b"
            self.assert_refused(NoRow, desk, row)
        for many in [65, 66, 68, 500]:
            self.assert_refused(NoRow, desk, "write 0 1 0 " + numbers(many))

    def test_what_is_no_text(self):
        desk = desk_in_use()
        for thing in [None, True, False, 0, 1, [], ["make"], ("make",), {}, b"make", 1.5, ""]:
            self.assert_refused(NoRow, desk, thing)

    def test_ahead_of_all(self):
        desk = desk_in_use()
        for row in ["fork 9 9", "end 9 x", "map 9 300 1 own 2 a", "map 9 300 1 shared 2", "rights 9 999 0 7 x",
                    "unmap 9 999", "file a 1 2 3", "file a 1 2 3 x", "drop zzzzzzzzz", "tell A", "read 9 9 9999",
                    "read 9 9 9999 x", "write 9 9 9999 x", "write 9 9 9999 " + numbers(65), "walks 9 9"]:
            self.assert_refused(NoRow, desk, row)


class WorldRefusesTest(DeskCase):
    def test_it_is_refused_so(self):
        desk = desk_in_use()
        desk.say("map 1 6 1 own 0")
        desk.say("map 1 7 1 own 1")
        desk.say("map 1 8 10 own 2")
        for refusal, row in [
            (NoNumber, "walks 2"), (NoNumber, "walks -1"), (NoNumber, "walks " + MOST), (NoNumber, "read 2 1 0 1"),
            (NoNumber, "read 0 1 1024 0"), (NoNumber, "read 0 1 0 65"), (NoNumber, "read 0 1 0 -1"),
            (NoNumber, "write -1 1 0 5"), (NoNumber, "write 0 1 1023 5 5"), (NoNumber, "write 0 1 -" + MOST + " 5"),
            (NoNumber, "map 1 256 1 own 2"), (NoNumber, "map 1 255 2 own 2"), (NoNumber, "map 1 20 0 own 2"),
            (NoNumber, "map 1 20 1 own 3"), (NoNumber, "map 1 20 1 own 2 a 64"), (NoNumber, "rights 1 0 1 3"),
            (NoNumber, "rights 1 0 0 2"), (NoNumber, "unmap 1 -1 1"), (NoNumber, "unmap 9 0 257"),
            (NoSpace, "fork 0"), (NoSpace, "fork -1"), (NoSpace, "end 2"), (NoSpace, "end " + MOST),
            (NoSpace, "map 2 0 1 own 2"), (NoSpace, "rights 2 0 1 2"), (NoSpace, "unmap 2 0 1"),
            (NoSpace, "read 0 2 0 0"), (NoSpace, "write 0 2 0"),
            (NoFile, "map 1 20 1 own 2 b 0"), (NoFile, "drop b"), (NoFile, "tell b"),
            (NoPage, "map 1 20 1 own 2 a 2"), (NoPage, "map 1 20 3 shared 2 a 0"), (NoPage, "rights 1 17 2 2"),
            (NoPage, "unmap 1 20 1"), (NoPage, "read 0 1 72 1"), (NoPage, "write 0 1 71 5 5"),
            (NoRight, "read 0 1 24 1"), (NoRight, "write 0 1 28 1"),
            (Taken, "map 1 0 1 own 2"), (Taken, "map 1 3 30 own 2"), (Taken, "file a 1 2 3 4"),
            (Held, "drop a"),
            (Full, "write 0 1 32 " + numbers(28)),
        ]:
            self.assert_refused(refusal, desk, row)

    def test_refusals_are_not_counted(self):
        desk = desk_in_use()
        for row in ["read 0 1 1000 1", "write 0 9 0 1", "nonsense"]:
            try:
                desk.say(row)
            except ValueError:
                pass
        self.assert_said(desk, "walks 0", "2")
        self.assert_said(desk, "make", "2")


if __name__ == "__main__":
    unittest.main()
