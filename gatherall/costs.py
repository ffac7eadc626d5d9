"""Doors that cost, and doors by chance."""

from gatherall.checks import are_numbers, is_number
from gatherall.errors import NoCosts, NoNumber
from gatherall.houses import need_house_and_places, through

MOST_COST = 99
MOST_BY_CHANCE = 12


def need_costs(costs, house):
    if not are_numbers(costs, 0, MOST_COST) or len(costs) != len(house[1]):
        raise NoCosts("these are no costs of the doors")


# A way is (cost, how many doors, row, standing): as tuples, ways stand in the order
# in which rows are to be told.
def ways_on(house, costs, way):
    found = []
    for door in range(len(house[1])):
        behind = through(house[1][door], way[3])
        found.append((way[0] + costs[door], way[1] + 1, way[2] + (door,), behind))
    return found


def cheapest(house, costs, places):
    need_house_and_places(house, places)
    need_costs(costs, house)
    done = {}
    waiting = [(0, 0, (), places)]
    while waiting:
        # A way on stands behind the one that it goes on from, even where its door
        # costs 0, as it has a door more: so the first way to a standing is its best.
        way = min(waiting)
        waiting.remove(way)
        if len(way[3]) == 1:
            return (way[0], way[2])
        if way[3] not in done:
            done[way[3]] = True
            waiting.extend([further for further in ways_on(house, costs, way) if further[3] not in done])
    return None


# Of how many rows lead to each standing comes how many of a door more lead to each.
def one_door_on(house, many_rows):
    counted = {}
    for door in house[1]:
        for standing in many_rows:
            behind = through(door, standing)
            counted[behind] = counted.get(behind, 0) + many_rows[standing]
    return counted


def greatest_divisor(one, other):
    while other > 0:
        rest = one % other
        one = other
        other = rest
    return one


def chance(house, places, many):
    need_house_and_places(house, places)
    if not is_number(many, 0, MOST_BY_CHANCE):
        raise NoNumber("this is no number of doors from 0 to 12")
    many_rows = {places: 1}
    for turn in range(many):
        many_rows = one_door_on(house, many_rows)
    upper = sum([many_rows[standing] for standing in many_rows if len(standing) == 1])
    lower = sum(many_rows.values())
    divisor = greatest_divisor(lower, upper)
    return (upper // divisor, lower // divisor)
