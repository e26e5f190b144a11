"""Whole numbers and their bounds, places and pages, rows of four cells."""

from paneworks.errors import NoNumber

CELLS_OF_PAGE = 4
PAGES_OF_LEAF = 16


def is_whole(thing):
    # Python counts a truth among the ints; here it is no number.
    return isinstance(thing, int) and not isinstance(thing, bool)


def number(thing, low, high):
    if not is_whole(thing) or thing < low or thing > high:
        # The thing stays out of the words: Python won't show a number of some thousand figures.
        raise NoNumber("no whole number within the bounds")
    return thing


def cell_number(thing):
    return number(thing, 1 - 10 ** 60, 10 ** 60 - 1)


def page_of(place):
    return place // CELLS_OF_PAGE


def cell_of(place):
    return place % CELLS_OF_PAGE


def upper_of(page):
    return page // PAGES_OF_LEAF


def lower_of(page):
    return page % PAGES_OF_LEAF


def row_of(thing):
    if not isinstance(thing, list) or len(thing) != CELLS_OF_PAGE:
        raise NoNumber("no list of just four numbers")
    return [cell_number(one) for one in thing]


def blank():
    return [0] * CELLS_OF_PAGE


def with_cells(row, cell, numbers):
    return row[:cell] + numbers + row[cell + len(numbers):]


def parts(place, many):
    told = []
    here = place
    end = place + many
    while here < end:
        cell = cell_of(here)
        count = min(CELLS_OF_PAGE - cell, end - here)
        told.append((page_of(here), cell, count))
        here = here + count
    return told
