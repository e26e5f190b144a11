"""A store: frames with a dial over them, a shelf for sheets that are put out, and files."""

from paneworks.dial import Dial
from paneworks.files import Files
from paneworks.frames import Frames
from paneworks.shelf import Shelf


class Store:
    def __init__(self, many, places):
        self.frames = Frames(many)
        self.dial = Dial(many)
        self.shelf = Shelf(places)
        self.files = Files()
        # Only sheets that have a holder are kept here.
        self.holders = {}
        self.sheets_made = 0


def is_sheet(thing):
    return thing[0] == "own"


def free_frame(store, frame):
    store.frames.empty(frame)
    store.dial.clear(frame)


def put_out(store, frame):
    thing = store.frames.thing_in(frame)
    row = store.frames.row_in(frame)
    if is_sheet(thing):
        store.shelf.put_on(thing[1], row)
    elif store.frames.is_soiled(frame):
        store.files.store_row(thing[1], thing[2], row)
    free_frame(store, frame)


def have_frame(store):
    free = store.frames.least_free()
    if free is not None:
        return free
    full = store.shelf.is_full()
    frame = store.dial.choose([not is_sheet(thing) or not full for thing in store.frames.things()])
    put_out(store, frame)
    return frame


def fetched(store, thing):
    if is_sheet(thing):
        return store.shelf.take_off(thing[1])
    return store.files.row_at(thing[1], thing[2])


def bring(store, thing):
    frame = store.frames.where(thing)
    if frame is not None:
        return (frame, False)
    # Fetched ahead of having a frame: a sheet from a full shelf makes the place for what goes out.
    row = fetched(store, thing)
    frame = have_frame(store)
    store.frames.fill(frame, thing, row)
    return (frame, True)


def row_now(store, thing):
    frame = store.frames.where(thing)
    if frame is not None:
        return store.frames.row_in(frame)
    if is_sheet(thing):
        return store.shelf.row_of_sheet(thing[1])
    return store.files.row_at(thing[1], thing[2])


def file_now(store, name):
    return [row_now(store, ("file", name, page)) for page in range(store.files.size_of(name))]


def is_of_file(thing, name):
    return thing is not None and thing[:2] == ("file", name)


def forget_file(store, name):
    # Dropping is what may be refused, so it goes ahead of all that changes something else.
    store.files.drop(name)
    frames = [frame for frame, thing in enumerate(store.frames.things()) if is_of_file(thing, name)]
    for frame in frames:
        free_frame(store, frame)
