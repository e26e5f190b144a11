"""A desk: a world that is told rows of words and answers each with a text."""

from paneworks.errors import NoRow
from paneworks.maps import drop_file, make_file, map_pages, set_rights, told_file, unmap_pages
from paneworks.places import CELLS_OF_PAGE
from paneworks.spaces import end_space, fork_space, make_space
from paneworks.texts import read_name, read_number, show_numbers
from paneworks.touches import read_cells, write_cells
from paneworks.world import World, told_copies, told_room, told_spaces, told_walks

DONE = "ok"
MOST_FILE_NUMBERS = 256
MOST_WRITTEN = 64


def words_of(row):
    if not isinstance(row, str):
        raise NoRow("no text")
    words = row.split(" ")
    if "" in words:
        raise NoRow("a word without signs")
    return words


def ask_count(words, least, most):
    if len(words) < least or len(words) > most:
        raise NoRow("too few or too many words")


def read_numbers(words):
    return [read_number(word) for word in words]


def just_numbers(words, many):
    ask_count(words, many, many)
    return read_numbers(words)


def just_name(words):
    ask_count(words, 1, 1)
    return read_name(words[0])


def say_make(world, words):
    ask_count(words, 0, 0)
    return str(make_space(world))


def say_fork(world, words):
    given = just_numbers(words, 1)
    return str(fork_space(world, given[0]))


def say_end(world, words):
    given = just_numbers(words, 1)
    end_space(world, given[0])
    return DONE


def say_map(world, words):
    ask_count(words, 5, 7)
    kind = words[3]
    # Of no file is an own stretch alone; a name goes with a start.
    if kind not in ("own", "shared") or len(words) == 6 or kind == "shared" and len(words) == 5:
        raise NoRow("no such stretch")
    given = read_numbers(words[:3] + words[4:5])
    if len(words) == 5:
        map_pages(world, given[0], given[1], given[2], kind, given[3])
    else:
        name = read_name(words[5])
        start = read_number(words[6])
        map_pages(world, given[0], given[1], given[2], kind, given[3], name, start)
    return DONE


def say_rights(world, words):
    given = just_numbers(words, 4)
    set_rights(world, given[0], given[1], given[2], given[3])
    return DONE


def say_unmap(world, words):
    given = just_numbers(words, 3)
    unmap_pages(world, given[0], given[1], given[2])
    return DONE


def say_file(world, words):
    ask_count(words, 1 + CELLS_OF_PAGE, 1 + MOST_FILE_NUMBERS)
    name = read_name(words[0])
    given = read_numbers(words[1:])
    if len(given) % CELLS_OF_PAGE != 0:
        raise NoRow("the last row has too few numbers")
    make_file(world, name, [given[at:at + CELLS_OF_PAGE] for at in range(0, len(given), CELLS_OF_PAGE)])
    return DONE


def say_drop(world, words):
    drop_file(world, just_name(words))
    return DONE


def say_tell(world, words):
    told = []
    for row in told_file(world, just_name(words)):
        told.extend(row)
    return show_numbers(told)


def say_read(world, words):
    given = just_numbers(words, 4)
    return show_numbers(read_cells(world, given[0], given[1], given[2], given[3]))


def say_write(world, words):
    ask_count(words, 3, 3 + MOST_WRITTEN)
    given = read_numbers(words)
    write_cells(world, given[0], given[1], given[2], given[3:])
    return DONE


def say_walks(world, words):
    given = just_numbers(words, 1)
    return str(told_walks(world, given[0]))


def say_copies(world, words):
    ask_count(words, 0, 0)
    return str(told_copies(world))


def say_room(world, words):
    ask_count(words, 0, 0)
    return str(told_room(world))


def say_spaces(world, words):
    ask_count(words, 0, 0)
    return show_numbers(told_spaces(world))


ANSWERS = {
    "make": say_make,
    "fork": say_fork,
    "end": say_end,
    "map": say_map,
    "rights": say_rights,
    "unmap": say_unmap,
    "file": say_file,
    "drop": say_drop,
    "tell": say_tell,
    "read": say_read,
    "write": say_write,
    "walks": say_walks,
    "copies": say_copies,
    "room": say_room,
    "spaces": say_spaces,
}


class Desk:
    def __init__(self, many, places, hands, slots):
        self.world = World(many, places, hands, slots)

    def say(self, row):
        words = words_of(row)
        if words[0] not in ANSWERS:
            raise NoRow("no such row")
        return ANSWERS[words[0]](self.world, words[1:])
