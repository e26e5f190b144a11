"""Sheets of a store: made, counted by their holders, ended with the last one."""

from paneworks.errors import Full
from paneworks.store import free_frame, have_frame


def room_of(store):
    # One frame is left out: it is the one through which all that lies elsewhere comes and goes.
    most = len(store.frames.things()) - 1 + len(store.shelf.sheets())
    return most - len(store.holders)


def new_sheet(store, row):
    if room_of(store) == 0:
        raise Full("no room for another sheet")
    frame = have_frame(store)
    sheet = store.sheets_made + 1
    store.sheets_made = sheet
    store.holders[sheet] = 1
    store.frames.fill(frame, ("own", sheet), row)
    return (sheet, frame)


def holders_of(store, sheet):
    return store.holders.get(sheet, 0)


def hold(store, sheet):
    store.holders[sheet] = store.holders[sheet] + 1
    return store.holders[sheet]


def let_go(store, sheet):
    left = store.holders[sheet] - 1
    store.holders[sheet] = left
    if left == 0:
        end_sheet(store, sheet)
    return left


def end_sheet(store, sheet):
    store.holders.pop(sheet)
    frame = store.frames.where(("own", sheet))
    if frame is None:
        store.shelf.take_off(sheet)
    else:
        free_frame(store, frame)
