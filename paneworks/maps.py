"""Maps of a world: stretches of a space's pages, their rights, and the files that they may be of."""

from paneworks.errors import Held, NoFile, NoNumber, NoPage
from paneworks.places import number, row_of
from paneworks.sheets import let_go
from paneworks.store import file_now, forget_file
from paneworks.stretches import laid, names_of, with_rights, without
from paneworks.world import space_at, strike_page_ways

PAGES_OF_SPACE = 256
MOST_RIGHTS = 2
MOST_ROWS = 64


def ask_pages(first, many):
    number(first, 0, PAGES_OF_SPACE - 1)
    number(many, 1, PAGES_OF_SPACE - first)


def ask_file(world, kind, name, start, many):
    if name is not None:
        if start + many > world.store.files.size_of(name):
            raise NoPage("the stretch goes beyond the end of its file")
    elif kind == "shared":
        raise NoFile("a shared stretch is of a file")


def map_pages(world, space, first, many, kind, rights, name=None, start=0):
    ask_pages(first, many)
    number(rights, 0, MOST_RIGHTS)
    begin = 0 if name is None else number(start, 0, MOST_ROWS - 1)
    living = space_at(world, space)
    ask_file(world, kind, name, begin, many)
    living.plan = laid(living.plan, (first, many, kind, rights, name, begin))


def set_rights(world, space, first, many, rights):
    ask_pages(first, many)
    number(rights, 0, MOST_RIGHTS)
    living = space_at(world, space)
    living.plan = with_rights(living.plan, first, many, rights)
    for page in range(first, first + many):
        strike_page_ways(world, space, page)


def unmap_pages(world, space, first, many):
    ask_pages(first, many)
    living = space_at(world, space)
    living.plan = without(living.plan, first, many)
    for page in range(first, first + many):
        strike_page_ways(world, space, page)
        leave_sheet(world, living.table, page)


def leave_sheet(world, table, page):
    sheet = table.sheet_at(page)
    if sheet is not None:
        table.strike(page)
        let_go(world.store, sheet)


def rows_of(thing):
    if not isinstance(thing, list):
        raise NoNumber("no list of rows")
    number(len(thing), 1, MOST_ROWS)
    return [row_of(row) for row in thing]


def make_file(world, name, rows):
    world.store.files.make(name, rows_of(rows))


def is_mapped(world, name):
    return any([name in names_of(world.spaces[space].plan) for space in world.spaces])


def drop_file(world, name):
    # Every file of a plan stands, so what is refused here is never a name that no file has.
    if is_mapped(world, name):
        raise Held("a stretch of a living space is of this file")
    forget_file(world.store, name)


def told_file(world, name):
    return file_now(world.store, name)
