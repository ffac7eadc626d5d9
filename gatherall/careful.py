"""Counters in a broken house, of which doors lead nowhere from some rooms."""

from gatherall.checks import need_broken_house, need_places, need_row
from gatherall.errors import NoRow
from gatherall.houses import (
    are_standings_apart, behind_row, never_lead_out, never_so_few, row_to_so_few, shortest_rows, through,
)


def need_broken_house_and_places(broken, places):
    need_broken_house(broken)
    need_places(places, broken[0])


def open_doors(broken, places):
    need_broken_house_and_places(broken, places)
    return [door for door in range(len(broken[1])) if through(broken[1][door], places) is not None]


def careful_led(broken, places, row):
    need_broken_house_and_places(broken, places)
    need_row(row, broken)
    standing = behind_row(broken, places, row)
    if standing is None:
        raise NoRow("they can not go through one of these doors")
    return standing


def careful_reached(broken, places):
    need_broken_house_and_places(broken, places)
    return sorted(shortest_rows(broken, places))


def careful_row(broken, places):
    need_broken_house_and_places(broken, places)
    return row_to_so_few(broken, places, 1)


def careful_bar(broken, places):
    need_broken_house_and_places(broken, places)
    return never_so_few(broken, places, 1)


def is_careful_bar(broken, places, thing):
    need_broken_house_and_places(broken, places)
    return are_standings_apart(thing, broken[0]) and never_lead_out(broken, places, thing)
