"""Touches: a hand reads or writes cells of a space, page by page."""

from paneworks.errors import Full, NoNumber, NoPage, NoRight
from paneworks.places import CELLS_OF_PAGE, blank, cell_number, number, parts
from paneworks.sheets import holders_of, let_go, new_sheet, room_of
from paneworks.store import bring, is_sheet, row_now
from paneworks.stretches import STATE_FILE_PAGE, STATE_KIND, STATE_NAME, STATE_RIGHTS, state_at
from paneworks.world import hand_of, space_at, strike_frame_ways, strike_page_ways

PLACES_OF_SPACE = 1024
MOST_CELLS = 64
TO_READ = 1
TO_WRITE = 2


def numbers_of(thing):
    if not isinstance(thing, list):
        raise NoNumber("no list of numbers")
    return [cell_number(one) for one in thing]


def ask_cells(world, hand, place, many):
    hand_of(world, hand)
    number(place, 0, PLACES_OF_SPACE - 1)
    number(many, 0, min(MOST_CELLS, PLACES_OF_SPACE - place))


def ask_states(plan, pages, wanted):
    states = [state_at(plan, page) for page in pages]
    if None in states:
        raise NoPage("a page is not mapped")
    if any([state[STATE_RIGHTS] < wanted for state in states]):
        raise NoRight("a page has no right to this")


def needs_sheet(world, living, page):
    if state_at(living.plan, page)[STATE_KIND] == "shared":
        return False
    sheet = living.table.sheet_at(page)
    return sheet is None or holders_of(world.store, sheet) > 1


def ask_room(world, living, pages):
    needed = [page for page in pages if needs_sheet(world, living, page)]
    if room_of(world.store) < len(needed):
        raise Full("no room for the sheets that this would make")


def thing_at(living, page):
    # None stands for a blank page: nobody has written it, so nothing is kept for it.
    sheet = living.table.sheet_at(page)
    if sheet is not None:
        return ("own", sheet)
    state = state_at(living.plan, page)
    if state[STATE_NAME] is None:
        return None
    return ("file", state[STATE_NAME], state[STATE_FILE_PAGE])


def frame_of_new_sheet(world, space, page, thing):
    # The row is told ahead of making the sheet, for which the old thing's frame may be put out.
    row = blank() if thing is None else row_now(world.store, thing)
    made = new_sheet(world.store, row)
    space_at(world, space).table.lay(page, made[0])
    strike_page_ways(world, space, page)
    if thing is not None:
        world.copies = world.copies + 1
        if is_sheet(thing):
            let_go(world.store, thing[1])
    return made[1]


def come_by(world, space, page, wanted):
    living = space_at(world, space)
    thing = thing_at(living, page)
    if wanted == TO_WRITE and needs_sheet(world, living, page):
        return (frame_of_new_sheet(world, space, page, thing), True)
    if thing is None:
        return None
    return bring(world.store, thing)


def walk(world, hand, space, page, wanted):
    world.walks[hand] = world.walks[hand] + 1
    came = come_by(world, space, page, wanted)
    if came is None:
        return None
    frame = came[0]
    if came[1]:
        # What the frame had before is gone from it, and with it every way that was found to it.
        strike_frame_ways(world, frame)
    world.books[hand].note(space, page, frame, wanted)
    return frame


def frame_for(world, hand, space, page, wanted):
    way = world.books[hand].found(space, page)
    if way is not None and way[1] >= wanted:
        return way[0]
    return walk(world, hand, space, page, wanted)


def touched_row(world, frame):
    if frame is None:
        return blank()
    world.store.dial.touch(frame)
    return world.store.frames.row_in(frame)


def read_cells(world, hand, space, place, many):
    ask_cells(world, hand, place, many)
    some = parts(place, many)
    ask_states(space_at(world, space).plan, [part[0] for part in some], TO_READ)
    told = []
    for page, cell, count in some:
        row = touched_row(world, frame_for(world, hand, space, page, TO_READ))
        told.extend(row[cell:cell + count])
    return told


def write_cells(world, hand, space, place, numbers):
    given = numbers_of(numbers)
    ask_cells(world, hand, place, len(given))
    some = parts(place, len(given))
    pages = [part[0] for part in some]
    living = space_at(world, space)
    ask_states(living.plan, pages, TO_WRITE)
    ask_room(world, living, pages)
    for page, cell, count in some:
        frame = frame_for(world, hand, space, page, TO_WRITE)
        world.store.dial.touch(frame)
        done = CELLS_OF_PAGE * page + cell - place
        world.store.frames.put_in(frame, cell, given[done:done + count])
