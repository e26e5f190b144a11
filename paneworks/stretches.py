"""Stretches of pages, tuples (first, many, kind, rights, name, start), and plans, lists of them.

A page's state is a tuple (kind, rights, name, file page).
"""

from paneworks.errors import NoPage, Taken

FIRST = 0
MANY = 1
KIND = 2
RIGHTS = 3
NAME = 4
START = 5

STATE_KIND = 0
STATE_RIGHTS = 1
STATE_NAME = 2
STATE_FILE_PAGE = 3


def end_of(stretch):
    return stretch[FIRST] + stretch[MANY]


def file_page_at(stretch, page):
    if stretch[NAME] is None:
        return 0
    return stretch[START] + page - stretch[FIRST]


def could_join(one, other):
    # Kind, rights and name stand side by side, right ahead of the start.
    if end_of(one) != other[FIRST] or one[KIND:START] != other[KIND:START]:
        return False
    return one[NAME] is None or other[START] == one[START] + one[MANY]


def is_plan(some):
    # What holds of all neighbours holds of all: each stretch has a page, so the firsts rise with the ends.
    for one, other in zip(some, some[1:]):
        if end_of(one) > other[FIRST] or could_join(one, other):
            return False
    return True


def state_at(plan, page):
    for stretch in plan:
        if stretch[FIRST] <= page and page < end_of(stretch):
            return stretch[KIND:START] + (file_page_at(stretch, page),)
    return None


def cut(plan, low, high):
    pieces = []
    for stretch in plan:
        first = max(stretch[FIRST], low)
        end = min(end_of(stretch), high)
        if first < end:
            pieces.append((first, end - first) + stretch[KIND:START] + (file_page_at(stretch, first),))
    return pieces


def covers(plan, first, many):
    # No two stretches of a plan have a page in common, so no page is counted twice.
    return sum([piece[MANY] for piece in cut(plan, first, first + many)]) == many


def names_of(plan):
    return sorted(set([stretch[NAME] for stretch in plan if stretch[NAME] is not None]))


def joined(pieces):
    plan = []
    for piece in pieces:
        if plan and could_join(plan[-1], piece):
            last = plan.pop()
            plan.append((last[FIRST], last[MANY] + piece[MANY]) + last[KIND:])
        else:
            plan.append(piece)
    return plan


def replaced(plan, first, many, pieces):
    ahead = cut(plan, 0, first)
    behind = cut(plan, first + many, end_of(plan[-1])) if plan else []
    return joined(ahead + pieces + behind)


def mapped(plan, first, many):
    if not covers(plan, first, many):
        raise NoPage("a page has no state")
    return cut(plan, first, first + many)


def laid(plan, stretch):
    if cut(plan, stretch[FIRST], end_of(stretch)):
        raise Taken("a page has a state already")
    return replaced(plan, stretch[FIRST], stretch[MANY], [stretch])


def without(plan, first, many):
    mapped(plan, first, many)
    return replaced(plan, first, many, [])


def with_rights(plan, first, many, rights):
    pieces = [piece[:RIGHTS] + (rights,) + piece[NAME:] for piece in mapped(plan, first, many)]
    return replaced(plan, first, many, pieces)
