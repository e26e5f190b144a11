"""A world: a store, hands with their books, and spaces; and all that it tells."""

from paneworks.books import Book
from paneworks.errors import NoSpace
from paneworks.places import number
from paneworks.sheets import holders_of, room_of
from paneworks.store import Store

MOST_FRAMES = 64
MOST_PLACES = 512
MOST_HANDS = 8
MOST_SLOTS = 16


class Space:
    def __init__(self, plan, table):
        self.plan = plan
        self.table = table


class World:
    def __init__(self, many, places, hands, slots):
        self.store = Store(number(many, 1, MOST_FRAMES), number(places, 0, MOST_PLACES))
        self.books = [Book(number(slots, 0, MOST_SLOTS)) for hand in range(number(hands, 1, MOST_HANDS))]
        self.walks = [0] * hands
        self.copies = 0
        self.spaces = {}
        self.spaces_made = 0


def space_at(world, space):
    if space not in world.spaces:
        raise NoSpace("no space lives by this number")
    return world.spaces[space]


def hand_of(world, hand):
    return number(hand, 0, len(world.books) - 1)


def strike_page_ways(world, space, page):
    for book in world.books:
        book.strike_page(space, page)


def strike_space_ways(world, space):
    for book in world.books:
        book.strike_space(space)


def strike_frame_ways(world, frame):
    for book in world.books:
        book.strike_frame(frame)


def told_spaces(world):
    return sorted(world.spaces)


def told_plan(world, space):
    return list(space_at(world, space).plan)


def told_ways(world, space):
    table = space_at(world, space).table
    return [(page, table.sheet_at(page)) for page in table.pages()]


def told_frames(world):
    return world.store.frames.things()


def told_marks(world):
    return world.store.dial.marks()


def told_pointer(world):
    return world.store.dial.pointer()


def told_shelf(world):
    return world.store.shelf.sheets()


def told_holders(world, sheet):
    return holders_of(world.store, sheet)


def told_book(world, hand):
    return world.books[hand_of(world, hand)].ways()


def told_walks(world, hand):
    return world.walks[hand_of(world, hand)]


def told_copies(world):
    return world.copies


def told_room(world):
    return room_of(world.store)
