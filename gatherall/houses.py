"""Counters in a house: all go through the same doors."""

from gatherall.checks import MOST_DOORS, are_places, is_number, need_house, need_places, need_row
from gatherall.errors import NoPlace, NoRow


def need_house_and_places(house, places):
    need_house(house)
    need_places(places, house[0])


def through(door, standing):
    return tuple(sorted(set([door[room] for room in standing])))


def behind_row(house, places, row):
    standing = places
    for door in row:
        standing = through(house[1][door], standing)
    return standing


def led(house, places, row):
    need_house_and_places(house, places)
    need_row(row, house)
    return behind_row(house, places, row)


# A dict of the shortest row to each standing that can be come to. Its keys come
# in the order of their rows, the shorter ones first, of as long ones the first
# one, as tuples: so the first key that fits has the row that is to be told.
def shortest_rows(house, places):
    rows = {places: ()}
    waiting = [places]
    while waiting:
        standing = waiting.pop(0)
        for door in range(len(house[1])):
            behind = through(house[1][door], standing)
            if behind not in rows:
                rows[behind] = rows[standing] + (door,)
                waiting.append(behind)
    return rows


def reached(house, places):
    need_house_and_places(house, places)
    return sorted(shortest_rows(house, places))


def fewest(house, places):
    need_house_and_places(house, places)
    rows = shortest_rows(house, places)
    # Of several that are as small, min takes the one that came first.
    smallest = min(list(rows), key=len)
    return (len(smallest), rows[smallest])


def gather(house, places):
    told = fewest(house, places)
    return told[1] if told[0] == 1 else None


def gather_at(house, places, room):
    need_house_and_places(house, places)
    if not is_number(room, 0, house[0] - 1):
        raise NoPlace("this is no room of the house")
    return shortest_rows(house, places).get((room,))


def bar_of(house, places):
    standings = reached(house, places)
    if any([len(standing) == 1 for standing in standings]):
        return None
    return standings


def is_apart(thing, many):
    return are_places(thing, many) and len(thing) >= 2


def is_bar_of(house, places, thing):
    need_house_and_places(house, places)
    if not isinstance(thing, list) or not all([is_apart(each, house[0]) for each in thing]):
        return False
    listed = dict([(standing, True) for standing in thing])
    if places not in listed:
        return False
    for door in house[1]:
        if not all([through(door, standing) in listed for standing in listed]):
            return False
    return True


def all_standings(many):
    found = [()]
    for room in range(many):
        found = found + [standing + (room,) for standing in found]
    return found[1:]


def pairs_apart(house):
    need_house(house)
    pairs = [standing for standing in all_standings(house[0]) if len(standing) == 2]
    return sorted([pair for pair in pairs if gather(house, pair) is None])


def standings_ahead(house):
    ahead = dict([(standing, []) for standing in all_standings(house[0])])
    for standing in all_standings(house[0]):
        for door in house[1]:
            ahead[through(door, standing)].append(standing)
    return ahead


# Going back from the single rooms finds all at once, where a search from each
# standing would go the same ways again and again.
def standings_that_gather(house):
    ahead = standings_ahead(house)
    gathers = dict([((room,), True) for room in range(house[0])])
    waiting = list(gathers)
    while waiting:
        behind = waiting.pop()
        for standing in ahead[behind]:
            if standing not in gathers:
                gathers[standing] = True
                waiting.append(standing)
    return list(gathers)


def sorted_out(house):
    need_house(house)
    sizes = [len(standing) for standing in all_standings(house[0])]
    gathering = [len(standing) for standing in standings_that_gather(house)]
    return [(sizes.count(many), gathering.count(many)) for many in range(1, house[0] + 1)]


def joined(house, row):
    need_house(house)
    need_row(row, house)
    if len(house[1]) == MOST_DOORS:
        raise NoRow("the house can have no door more")
    door = tuple([behind_row(house, (room,), row)[0] for room in range(house[0])])
    return (house[0], house[1] + (door,))
