import inspect
import unittest

from paneworks.books import Book
from paneworks.places import is_whole

ARGUMENTS = {
    "found": ["space", "page"],
    "note": ["space", "page", "frame", "mark"],
    "strike_page": ["space", "page"],
    "strike_space": ["space"],
    "strike_frame": ["frame"],
    "ways": [],
}
WAYS = [(1, 0, 0, 1), (1, 255, 1, 2), (2, 0, 0, 2), (3, 7, 5, 1), (2, 255, 63, 1), (1, 7, 5, 2)]


def book_with(slots, ways):
    book = Book(slots)
    for space, page, frame, mark in ways:
        book.note(space, page, frame, mark)
    return book


class BookCase(unittest.TestCase):
    def assert_ways(self, book, ways):
        told = book.ways()
        self.assertEqual(told, ways)
        self.assertIs(told.__class__, list)
        for way in told:
            self.assertIs(way.__class__, tuple)
        by_page = {way[:2]: way[2:] for way in ways}
        for space in range(1, 5):
            for page in (0, 1, 7, 254, 255):
                found = book.found(space, page)
                self.assertEqual(found, by_page.get((space, page)))
                self.assertTrue(found is None or found.__class__ is tuple)
        self.assertEqual(book.ways(), ways)

    def assert_struck(self, told, wanted):
        self.assertEqual(told, wanted)
        self.assertIs(is_whole(told), True)


class InterfaceTest(unittest.TestCase):
    def test_names_and_arguments(self):
        self.assertEqual(list(inspect.signature(Book).parameters), ["slots"])
        for name, arguments in ARGUMENTS.items():
            with self.subTest(name=name):
                self.assertEqual(list(inspect.signature(getattr(Book(1), name)).parameters), arguments)


class NoteTest(BookCase):
    def test_a_new_book_has_no_way(self):
        for slots in [0, 1, 2, 16]:
            self.assert_ways(Book(slots), [])

    def test_the_oldest_goes(self):
        for slots in [0, 1, 2, 3, 16]:
            book = Book(slots)
            for many, way in enumerate(WAYS, start=1):
                book.note(*way)
                with self.subTest(slots=slots, many=many):
                    self.assert_ways(book, WAYS[max(0, many - slots):many])

    def test_sixteen_slots_filled_and_one_more(self):
        book = Book(16)
        ways = [(1 + step % 3, step, step, 1 + step % 2) for step in range(40)]
        for many, way in enumerate(ways, start=1):
            book.note(*way)
            self.assertEqual(book.ways(), ways[max(0, many - 16):many])
        self.assertIsNone(book.found(*ways[23][:2]))
        self.assertEqual(book.found(*ways[24][:2]), ways[24][2:])

    def test_a_way_noted_anew_becomes_the_newest(self):
        for frame, mark in [(0, 1), (0, 2), (9, 1), (9, 2)]:
            book = book_with(3, WAYS[:3])
            book.note(1, 0, frame, mark)
            self.assert_ways(book, [WAYS[1], WAYS[2], (1, 0, frame, mark)])
            book.note(3, 7, 5, 1)
            self.assert_ways(book, [WAYS[2], (1, 0, frame, mark), (3, 7, 5, 1)])

    def test_a_way_noted_anew_pushes_none_out(self):
        for place in range(2):
            book = book_with(2, WAYS[:2])
            space, page = WAYS[place][:2]
            book.note(space, page, 40, 2)
            self.assert_ways(book, [WAYS[1 - place], (space, page, 40, 2)])
        book = book_with(1, WAYS[:1])
        book.note(1, 0, 40, 2)
        self.assert_ways(book, [(1, 0, 40, 2)])

    def test_the_mark_of_the_newest_counts(self):
        book = book_with(2, [(1, 0, 3, 2), (1, 0, 3, 1)])
        self.assert_ways(book, [(1, 0, 3, 1)])

    def test_the_same_page_of_two_spaces(self):
        book = book_with(2, [(1, 7, 3, 1), (2, 7, 3, 2)])
        self.assert_ways(book, [(1, 7, 3, 1), (2, 7, 3, 2)])
        book = book_with(2, [(1, 7, 3, 1), (1, 254, 3, 2)])
        self.assert_ways(book, [(1, 7, 3, 1), (1, 254, 3, 2)])

    def test_space_and_page_are_not_mistaken_for_one_another(self):
        book = book_with(4, [(1, 7, 0, 1), (7, 1, 2, 2)])
        self.assertEqual(book.found(1, 7), (0, 1))
        self.assertEqual(book.found(7, 1), (2, 2))
        self.assertIsNone(book.found(1, 1))
        self.assertIsNone(book.found(7, 7))

    def test_great_numbers(self):
        book = book_with(2, [(10 ** 60, 255, 63, 2), (10 ** 60 + 1, 255, 63, 1)])
        self.assertEqual(book.found(10 ** 60, 255), (63, 2))
        self.assert_struck(book.strike_space(10 ** 60), 1)
        self.assertEqual(book.ways(), [(10 ** 60 + 1, 255, 63, 1)])

    def test_finding_makes_no_way_newer(self):
        book = book_with(2, WAYS[:2])
        for step in range(3):
            book.found(1, 0)
            book.found(4, 0)
        self.assert_ways(book, WAYS[:2])
        book.note(*WAYS[2])
        self.assert_ways(book, WAYS[1:3])


class StrikeTest(BookCase):
    def test_the_way_of_a_space_and_page(self):
        for place, way in enumerate(WAYS):
            book = book_with(16, WAYS)
            self.assert_struck(book.strike_page(*way[:2]), 1)
            self.assert_ways(book, WAYS[:place] + WAYS[place + 1:])
            self.assert_struck(book.strike_page(*way[:2]), 0)
            self.assert_ways(book, WAYS[:place] + WAYS[place + 1:])

    def test_of_a_page_without_way(self):
        for space, page in [(1, 1), (3, 0), (4, 7), (2, 7)]:
            book = book_with(16, WAYS)
            self.assert_struck(book.strike_page(space, page), 0)
            self.assert_ways(book, WAYS)

    def test_all_ways_of_a_space(self):
        for space, many in [(1, 3), (2, 2), (3, 1), (4, 0), (63, 0)]:
            book = book_with(16, WAYS)
            self.assert_struck(book.strike_space(space), many)
            self.assert_ways(book, [way for way in WAYS if way[0] != space])
            self.assert_struck(book.strike_space(space), 0)

    def test_all_ways_to_a_frame(self):
        for frame, many in [(0, 2), (1, 1), (5, 2), (63, 1), (2, 0), (7, 0), (255, 0)]:
            book = book_with(16, WAYS)
            self.assert_struck(book.strike_frame(frame), many)
            self.assert_ways(book, [way for way in WAYS if way[2] != frame])
            self.assert_struck(book.strike_frame(frame), 0)

    def test_all_there_are(self):
        ways = [(3, page, 8, 1) for page in range(16)]
        for deed in ("strike_space", "strike_frame"):
            book = book_with(16, ways)
            self.assert_struck(getattr(book, deed)({"strike_space": 3, "strike_frame": 8}[deed]), 16)
            self.assert_ways(book, [])

    def test_of_an_empty_book(self):
        for slots in [0, 1, 2, 16]:
            book = Book(slots)
            self.assert_struck(book.strike_page(1, 0), 0)
            self.assert_struck(book.strike_space(1), 0)
            self.assert_struck(book.strike_frame(0), 0)
            self.assert_ways(book, [])

    def test_a_book_of_no_slots_strikes_nothing(self):
        book = book_with(0, WAYS)
        self.assert_struck(book.strike_page(1, 7), 0)
        self.assert_struck(book.strike_space(1), 0)
        self.assert_struck(book.strike_frame(5), 0)

    def test_a_struck_way_frees_its_slot(self):
        book = book_with(3, WAYS[:3])
        book.strike_page(1, 255)
        book.note(*WAYS[3])
        self.assert_ways(book, [WAYS[0], WAYS[2], WAYS[3]])
        book.note(*WAYS[4])
        self.assert_ways(book, [WAYS[2], WAYS[3], WAYS[4]])


class ApartTest(BookCase):
    def test_told_lists_are_the_askers_own(self):
        book = book_with(4, WAYS[:3])
        told = book.ways()
        told.append((4, 1, 1, 1))
        told[0] = (4, 0, 1, 1)
        self.assert_ways(book, WAYS[:3])
        told = book.ways()
        book.note(*WAYS[3])
        book.note(*WAYS[4])
        book.strike_frame(1)
        self.assertEqual(told, WAYS[:3])
        empty = Book(2)
        empty.ways().append((1, 1, 1, 1))
        self.assert_ways(empty, [])

    def test_books_made_apart_have_nothing_in_common(self):
        one = Book(2)
        other = Book(2)
        one.note(*WAYS[0])
        self.assert_ways(other, [])
        other.note(*WAYS[1])
        other.note(*WAYS[2])
        self.assert_ways(one, WAYS[:1])
        one.strike_space(1)
        self.assert_ways(one, [])
        self.assert_ways(other, WAYS[1:3])


if __name__ == "__main__":
    unittest.main()
