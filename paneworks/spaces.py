"""Spaces of a world: made, forked and ended."""

from paneworks.sheets import hold, let_go
from paneworks.tables import Table, copy_of
from paneworks.world import Space, space_at, strike_space_ways


def add_space(world, plan, table):
    space = world.spaces_made + 1
    world.spaces_made = space
    world.spaces[space] = Space(plan, table)
    return space


def sheets_of(table):
    return [table.sheet_at(page) for page in table.pages()]


def make_space(world):
    return add_space(world, [], Table())


def fork_space(world, space):
    old = space_at(world, space)
    for sheet in sheets_of(old.table):
        hold(world.store, sheet)
    # A way found to write stands for a sheet of one holder, which it has no more.
    strike_space_ways(world, space)
    return add_space(world, list(old.plan), copy_of(old.table))


def end_space(world, space):
    old = space_at(world, space)
    for sheet in sheets_of(old.table):
        let_go(world.store, sheet)
    strike_space_ways(world, space)
    world.spaces.pop(space)
