"""What several tests ask of a world, and a plain model of one, written by the document's points alone."""

from paneworks.errors import Full, Held, NoFile, NoNumber, NoPage, NoRight, NoSpace, PaneError, Taken
from paneworks.maps import drop_file, make_file, map_pages, set_rights, told_file, unmap_pages
from paneworks.spaces import end_space, fork_space, make_space
from paneworks.store import row_now
from paneworks.touches import read_cells, write_cells
from paneworks.world import (
    told_book, told_copies, told_frames, told_holders, told_marks, told_plan, told_pointer, told_room, told_shelf,
    told_spaces, told_walks, told_ways)

NO_NUMBERS = [True, False, "1", "", None, [], [1], (), (1,), {}]
DEEDS = {
    "make_space": make_space, "fork_space": fork_space, "end_space": end_space, "map_pages": map_pages,
    "set_rights": set_rights, "unmap_pages": unmap_pages, "make_file": make_file, "drop_file": drop_file,
    "told_file": told_file, "read_cells": read_cells, "write_cells": write_cells,
}


def last_sheet(world):
    sheets = [sheet for space in told_spaces(world) for page, sheet in told_ways(world, space)]
    return max(sheets, default=0)


def told(world):
    """All that a world tells by the interface."""
    spaces = told_spaces(world)
    return {
        "spaces": spaces,
        "plans": {space: told_plan(world, space) for space in spaces},
        "ways": {space: told_ways(world, space) for space in spaces},
        "frames": told_frames(world),
        "marks": told_marks(world),
        "pointer": told_pointer(world),
        "shelf": told_shelf(world),
        "holders": {sheet: told_holders(world, sheet) for sheet in range(last_sheet(world) + 3)},
        "books": [told_book(world, hand) for hand in range(len(world.books))],
        "walks": [told_walks(world, hand) for hand in range(len(world.books))],
        "copies": told_copies(world),
        "room": told_room(world),
    }


def seen(world):
    """All that a world tells, and behind it the rows of its things, its files, and which frames are soiled."""
    store = world.store
    all_told = told(world)
    things = [thing for thing in all_told["frames"] if thing is not None]
    things += [("own", sheet) for sheet in all_told["shelf"] if sheet is not None]
    all_told["rows"] = {thing: row_now(store, thing) for thing in things}
    all_told["files"] = {name: told_file(world, name) for name in store.files.names()}
    all_told["stored"] = {name: [store.files.row_at(name, page) for page in range(store.files.size_of(name))]
                          for name in store.files.names()}
    all_told["soiled"] = [store.frames.is_soiled(frame) for frame in range(len(all_told["frames"]))]
    return all_told


def outcome(deed, *handed):
    """What a deed tells, or the class of its refusal."""
    try:
        return ("told", deed(*handed))
    except PaneError as refusal:
        return ("refused", refusal.__class__)


def is_in(thing, low, high):
    return thing.__class__ is int and low <= thing <= high


def is_list_of_numbers(thing, least, most):
    return (thing.__class__ is list and least <= len(thing) <= most
            and all(is_in(one, 1 - 10 ** 60, 10 ** 60 - 1) for one in thing))


class Page:
    """A mapped page of a space; its row is the space's own, or None where the space has not written it."""

    def __init__(self, kind, rights, name, file_page, sheet=None, row=None):
        self.kind = kind
        self.rights = rights
        self.name = name
        self.file_page = file_page
        self.sheet = sheet
        self.row = row

    def twin(self):
        return Page(self.kind, self.rights, self.name, self.file_page, self.sheet, self.row and list(self.row))

    def state(self):
        return (self.kind, self.rights, self.name, self.file_page)


class Plain:
    """Each space keeps its own pages by themselves, and each file its rows; there are no frames, books or shelf."""

    def __init__(self, many, places, hands, slots):
        self.most = many - 1 + places
        self.hands = hands
        self.spaces = {}
        self.files = {}
        self.spaces_made = 0
        self.sheets_made = 0
        self.copies = 0

    def holders(self, sheet):
        return sum(page.sheet == sheet for pages in self.spaces.values() for page in pages.values())

    def room(self):
        return self.most - len({page.sheet for pages in self.spaces.values() for page in pages.values()} - {None})

    def ways(self, space):
        return [(page, one.sheet) for page, one in sorted(self.spaces[space].items()) if one.sheet is not None]

    def plan(self, space):
        stretches = []
        for page, one in sorted(self.spaces[space].items()):
            last = stretches[-1] if stretches else None
            begins = one.name and one.file_page - page
            if last and last[0] + last[1] == page and last[2:5] == one.state()[:3] and \
                    (one.name is None or last[5] - last[0] == begins):
                stretches[-1] = (last[0], last[1] + 1) + last[2:]
            else:
                stretches.append((page, 1) + one.state())
        return stretches

    def refuse(self, *due):
        """The first that is due, in the order in which they stand."""
        for is_due, refusal in due:
            if is_due():
                raise refusal()

    def pages_are_none(self, first, many):
        return not is_in(first, 0, 255) or not is_in(many, 1, 256) or first + many > 256

    def lacks_space(self, space):
        return space not in self.spaces

    def make_space(self):
        self.spaces_made += 1
        self.spaces[self.spaces_made] = {}
        return self.spaces_made

    def fork_space(self, space):
        self.refuse((lambda: self.lacks_space(space), NoSpace))
        new = self.make_space()
        self.spaces[new] = {page: one.twin() for page, one in self.spaces[space].items()}
        return new

    def end_space(self, space):
        self.refuse((lambda: self.lacks_space(space), NoSpace))
        self.spaces.pop(space)

    def map_pages(self, space, first, many, kind, rights, name=None, start=0):
        self.refuse(
            (lambda: self.pages_are_none(first, many), NoNumber),
            (lambda: not is_in(rights, 0, 2), NoNumber),
            (lambda: name is not None and not is_in(start, 0, 63), NoNumber),
            (lambda: self.lacks_space(space), NoSpace),
            (lambda: name is None and kind == "shared", NoFile),
            (lambda: name is not None and name not in self.files, NoFile),
            (lambda: name is not None and start + many > len(self.files[name]), NoPage),
            (lambda: any(page in self.spaces[space] for page in range(first, first + many)), Taken))
        for page in range(first, first + many):
            self.spaces[space][page] = Page(kind, rights, name, 0 if name is None else start + page - first)

    def refuse_pages(self, space, first, many, rights=0):
        self.refuse(
            (lambda: self.pages_are_none(first, many), NoNumber),
            (lambda: not is_in(rights, 0, 2), NoNumber),
            (lambda: self.lacks_space(space), NoSpace),
            (lambda: any(page not in self.spaces[space] for page in range(first, first + many)), NoPage))

    def set_rights(self, space, first, many, rights):
        self.refuse_pages(space, first, many, rights)
        for page in range(first, first + many):
            self.spaces[space][page].rights = rights

    def unmap_pages(self, space, first, many):
        self.refuse_pages(space, first, many)
        for page in range(first, first + many):
            self.spaces[space].pop(page)

    def make_file(self, name, rows):
        self.refuse(
            (lambda: rows.__class__ is not list or not 1 <= len(rows) <= 64, NoNumber),
            (lambda: not all(is_list_of_numbers(row, 4, 4) for row in rows), NoNumber),
            (lambda: name in self.files, Taken))
        self.files[name] = [list(row) for row in rows]

    def is_held(self, name):
        return any(page.name == name for pages in self.spaces.values() for page in pages.values())

    def drop_file(self, name):
        self.refuse((lambda: name not in self.files, NoFile), (lambda: self.is_held(name), Held))
        self.files.pop(name)

    def told_file(self, name):
        self.refuse((lambda: name not in self.files, NoFile))
        return [list(row) for row in self.files[name]]

    def refuse_cells(self, hand, space, place, many, wanted):
        touched = range(0)
        if is_in(place, 0, 1023) and is_in(many, 1, 64):
            touched = range(place // 4, (place + many - 1) // 4 + 1)
        self.refuse(
            (lambda: not is_in(hand, 0, self.hands - 1), NoNumber),
            (lambda: not is_in(place, 0, 1023) or not is_in(many, 0, 64) or place + many > 1024, NoNumber),
            (lambda: self.lacks_space(space), NoSpace),
            (lambda: any(page not in self.spaces[space] for page in touched), NoPage),
            (lambda: any(self.spaces[space][page].rights < wanted for page in touched), NoRight),
            (lambda: wanted == 2 and self.room() < sum(self.needs_sheet(self.spaces[space][page])
                                                       for page in touched), Full))

    def needs_sheet(self, page):
        return page.kind == "own" and (page.sheet is None or self.holders(page.sheet) > 1)

    def row_of_page(self, page):
        """The very list that keeps the page's numbers, or a new one of a blank page."""
        if page.row is not None:
            return page.row
        return [0, 0, 0, 0] if page.name is None else self.files[page.name][page.file_page]

    def on_touch(self, hand, space, number, wanted):
        """Called ahead of each touch of a page."""

    def read_cells(self, hand, space, place, many):
        self.refuse_cells(hand, space, place, many, 1)
        numbers = []
        for here in range(place, place + many):
            if here == place or here % 4 == 0:
                self.on_touch(hand, space, here // 4, 1)
            numbers.append(self.row_of_page(self.spaces[space][here // 4])[here % 4])
        return numbers

    def write_cells(self, hand, space, place, numbers):
        self.refuse((lambda: not is_list_of_numbers(numbers, 0, 64), NoNumber))
        self.refuse_cells(hand, space, place, len(numbers), 2)
        for here, one in enumerate(numbers, start=place):
            if here == place or here % 4 == 0:
                self.on_touch(hand, space, here // 4, 2)
                self.own_if_needed(self.spaces[space][here // 4])
            self.row_of_page(self.spaces[space][here // 4])[here % 4] = one

    def own_if_needed(self, page):
        if self.needs_sheet(page):
            self.copies += page.sheet is not None or page.name is not None
            page.row = list(self.row_of_page(page))
            self.sheets_made += 1
            page.sheet = self.sheets_made


class Stepped(Plain):
    """The plain model, and beside it where all lies, by points 14, 15, 19 to 23, 26, 28 and 32."""

    def __init__(self, many, places, hands, slots):
        Plain.__init__(self, many, places, hands, slots)
        self.slots = slots
        self.frames = [None] * many
        self.marks = [False] * many
        self.pointer = 0
        self.shelf = [None] * places
        self.books = [[] for hand in range(hands)]
        self.walks = [0] * hands

    def strike(self, is_struck):
        self.books = [[way for way in book if not is_struck(way)] for book in self.books]

    def free_the_ended(self):
        for frame, thing in enumerate(self.frames):
            ended = thing is not None and thing[0] == "own" and self.holders(thing[1]) == 0
            if ended or thing is not None and thing[0] == "file" and thing[1] not in self.files:
                self.frames[frame] = None
                self.marks[frame] = False
        self.shelf = [None if sheet is None or self.holders(sheet) == 0 else sheet for sheet in self.shelf]

    def fork_space(self, space):
        new = Plain.fork_space(self, space)
        self.strike(lambda way: way[0] == space)
        return new

    def end_space(self, space):
        Plain.end_space(self, space)
        self.strike(lambda way: way[0] == space)
        self.free_the_ended()

    def set_rights(self, space, first, many, rights):
        Plain.set_rights(self, space, first, many, rights)
        self.strike(lambda way: way[0] == space and first <= way[1] < first + many)

    def unmap_pages(self, space, first, many):
        Plain.unmap_pages(self, space, first, many)
        self.strike(lambda way: way[0] == space and first <= way[1] < first + many)
        self.free_the_ended()

    def drop_file(self, name):
        Plain.drop_file(self, name)
        self.free_the_ended()

    def have_frame(self):
        if None in self.frames:
            return self.frames.index(None)
        while True:
            frame = self.pointer
            self.pointer = (frame + 1) % len(self.frames)
            if self.frames[frame][0] == "own" and None not in self.shelf:
                continue
            if self.marks[frame]:
                self.marks[frame] = False
                continue
            if self.frames[frame][0] == "own":
                self.shelf[self.shelf.index(None)] = self.frames[frame][1]
            self.frames[frame] = None
            return frame

    def fill_a_frame(self, thing):
        if thing[0] == "own" and thing[1] in self.shelf:
            self.shelf[self.shelf.index(thing[1])] = None
        frame = self.have_frame()
        self.frames[frame] = thing
        return frame

    def on_touch(self, hand, space, number, wanted):
        frame = None
        for way in self.books[hand]:
            if way[:2] == (space, number) and way[3] >= wanted:
                frame = way[2]
        if frame is None:
            frame = self.walk(hand, space, number, wanted)
        if frame is not None:
            self.marks[frame] = True

    def walk(self, hand, space, number, wanted):
        self.walks[hand] += 1
        page = self.spaces[space][number]
        thing = None if page.name is None else ("file", page.name, page.file_page)
        if page.sheet is not None:
            thing = ("own", page.sheet)
        is_new = wanted == 2 and self.needs_sheet(page)
        if is_new:
            thing = ("own", self.sheets_made + 1)
            self.strike(lambda way: way[:2] == (space, number))
        if thing is None:
            return None
        if thing in self.frames:
            frame = self.frames.index(thing)
        else:
            frame = self.fill_a_frame(thing)
            self.strike(lambda way: way[2] == frame)
        book = [way for way in self.books[hand] if way[:2] != (space, number)] + [(space, number, frame, wanted)]
        self.books[hand] = book[max(0, len(book) - self.slots):]
        return frame

    def told(self):
        """As told, of a world."""
        return {
            "spaces": sorted(self.spaces),
            "plans": {space: self.plan(space) for space in self.spaces},
            "ways": {space: self.ways(space) for space in self.spaces},
            "frames": self.frames,
            "marks": self.marks,
            "pointer": self.pointer,
            "shelf": self.shelf,
            "books": self.books,
            "walks": self.walks,
            "copies": self.copies,
            "room": self.room(),
        }


class Drawn:
    """Deeds drawn one by one, most of them such as the model would not refuse."""

    def __init__(self, draw, model):
        self.draw = draw
        self.model = model

    def beginning(self):
        """Two spaces with stretches of each sort, so that reads and writes find pages from the first on."""
        deeds = [("make_space",), ("make_space",)]
        for name, many in [("a", 6), ("b", 3)]:
            deeds.append(("make_file", name, [[self.a_number() for cell in range(4)] for row in range(many)]))
        for space, first in [(1, 0), (2, 3)]:
            deeds.append(("map_pages", space, first, 5, "own", 2))
            deeds.append(("map_pages", space, first + 5, 6, "shared", 2, "a", 0))
            deeds.append(("map_pages", space, first + 11, 3, "own", 2, "b", 0))
            deeds.append(("map_pages", space, 250, 4, "own", 2, "a", 2))
            deeds.append(("map_pages", space, 254, 2, "shared", 1 + space % 2, "b", 1))
        return deeds

    def a_space(self):
        spaces = sorted(self.model.spaces)
        if not spaces or self.draw.randrange(30) == 0:
            return self.draw.choice([0, -1, self.model.spaces_made + 1, self.model.spaces_made])
        return self.draw.choice(spaces)

    def a_name(self):
        return self.draw.choice(["a", "b", "abcdefgh"])

    def a_number(self):
        return self.draw.choice([0, 1, -1, 10 ** 60 - 1, 1 - 10 ** 60, self.draw.randrange(1000)])

    def a_hand(self):
        return self.draw.randrange(self.model.hands) if self.draw.randrange(40) else self.draw.choice([-1, 8])

    def a_page(self, space):
        """Mostly one that is mapped."""
        pages = sorted(self.model.spaces.get(space, {}))
        if not pages or self.draw.randrange(15) == 0:
            return self.draw.choice([0, 1, 2, 3, 4, 5, 14, 15, 16, 17, 252, 253, 255])
        return self.draw.choice(pages)

    def a_deed(self):
        space = self.a_space()
        lot = self.draw.randrange(100)
        if lot < 30:
            return self.a_deed_of_spaces(space, lot)
        if lot < 37:
            return self.a_deed_of_files(lot)
        place = 4 * self.a_page(space) + self.draw.choice([0, 0, 1, 2, 3])
        cells = self.draw.choice([0, 1, 1, 2, 3, 4, 5, 8, 13])
        if lot < 65:
            return ("read_cells", self.a_hand(), space, place, cells)
        return ("write_cells", self.a_hand(), space, place, [self.a_number() for cell in range(cells)])

    def a_deed_of_spaces(self, space, lot):
        living = len(self.model.spaces)
        if lot < 6:
            if living < 2:
                return ("make_space",)
            return ("fork_space", space) if living < 6 else ("end_space", space)
        if lot < 7:
            return ("end_space", space)
        if lot < 20:
            return self.a_map(space)
        first = self.a_page(space)
        many = self.draw.choice([1, 1, 2, 3])
        if lot < 25:
            return ("set_rights", space, first, many, self.draw.choice([0, 1, 2, 2, 2, 2]))
        return ("unmap_pages", space, first, many)

    def a_map(self, space):
        # Few pages, so that deeds meet; some at the far end, and some beyond it.
        first = self.draw.choice([0, 1, 2, 3, 4, 5, 6, 8, 10, 12, 14, 15, 16, 17, 250, 253, 255])
        many = self.draw.choice([1, 1, 2, 2, 3, 4, 6])
        rights = self.draw.choice([0, 1, 2, 2, 2, 2, 2, 2])
        lot = self.draw.randrange(20)
        if lot < 7:
            return ("map_pages", space, first, many, "own", rights)
        kind = "own" if lot < 13 else "shared"
        if lot == 19:
            return ("map_pages", space, first, many, kind, rights, None, 7)
        return ("map_pages", space, first, many, kind, rights, self.a_name(), self.draw.choice([0, 0, 1, 2]))

    def a_deed_of_files(self, lot):
        if lot < 33:
            rows = [[self.a_number() for cell in range(4)] for row in range(self.draw.choice([1, 2, 4, 6, 8]))]
            return ("make_file", self.a_name(), rows)
        return ("drop_file" if lot < 35 else "told_file", self.a_name())
