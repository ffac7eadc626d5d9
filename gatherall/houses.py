"""Counters in a house: all go through the same doors."""

from gatherall.checks import MOST_DOORS, are_places, is_number, need_house, need_places, need_row
from gatherall.errors import NoPlace, NoRow


def need_house_and_places(house, places):
    need_house(house)
    need_places(places, house[0])


# A house is a broken house of which no door leads nowhere: so both go this way.
# None is behind a door that leads nowhere from one of the rooms.
def through(door, standing):
    rooms = [door[room] for room in standing]
    return None if None in rooms else tuple(sorted(set(rooms)))


def behind_row(house, places, row):
    standing = places
    for door in row:
        if standing is not None:
            standing = through(house[1][door], standing)
    return standing


def led(house, places, row):
    need_house_and_places(house, places)
    need_row(row, house)
    return behind_row(house, places, row)


# A dict of the shortest row to each thing that can be come to through doors, where
# behind(door, thing) tells the next one, or None. Its keys come in the order of
# their rows, the shorter ones first, of as long ones the first one, as tuples: so
# the first key that fits has the row that is to be told.
def rows_from(start, doors, behind):
    rows = {start: ()}
    waiting = [start]
    while waiting:
        ahead = waiting.pop(0)
        for door in range(len(doors)):
            came = behind(doors[door], ahead)
            if came is not None and came not in rows:
                rows[came] = rows[ahead] + (door,)
                waiting.append(came)
    return rows


def shortest_rows(house, places):
    return rows_from(places, house[1], through)


def row_to_so_few(house, places, few):
    rows = shortest_rows(house, places)
    fitting = [standing for standing in rows if len(standing) == few]
    return rows[fitting[0]] if fitting else None


# What can be come to leads to nothing else: so it bars, unless so few are in it.
def never_so_few(house, places, few):
    standings = sorted(shortest_rows(house, places))
    return None if any([len(standing) == few for standing in standings]) else standings


def never_lead_out(house, places, standings):
    listed = dict([(standing, True) for standing in standings])
    # None may be behind a door as well: through it they can not go.
    listed[None] = True
    for door in house[1]:
        if not all([through(door, standing) in listed for standing in standings]):
            return False
    return places in listed


def reached(house, places):
    need_house_and_places(house, places)
    return sorted(shortest_rows(house, places))


def fewest(house, places):
    need_house_and_places(house, places)
    rows = shortest_rows(house, places)
    # Of several that are as small, min takes the one that came first.
    smallest = min(list(rows), key=len)
    return (len(smallest), rows[smallest])


def gather(house, places):
    need_house_and_places(house, places)
    return row_to_so_few(house, places, 1)


def gather_at(house, places, room):
    need_house_and_places(house, places)
    if not is_number(room, 0, house[0] - 1):
        raise NoPlace("this is no room of the house")
    return shortest_rows(house, places).get((room,))


def bar_of(house, places):
    need_house_and_places(house, places)
    return never_so_few(house, places, 1)


def is_apart(thing, many):
    return are_places(thing, many) and len(thing) >= 2


def are_standings_apart(thing, many):
    return isinstance(thing, list) and all([is_apart(each, many) for each in thing])


def is_bar_of(house, places, thing):
    need_house_and_places(house, places)
    return are_standings_apart(thing, house[0]) and never_lead_out(house, places, thing)


def all_standings(many):
    found = [()]
    for room in range(many):
        found = found + [standing + (room,) for standing in found]
    return found[1:]


def pairs_apart(house):
    need_house(house)
    pairs = [standing for standing in all_standings(house[0]) if len(standing) == 2]
    return sorted([pair for pair in pairs if gather(house, pair) is None])


def standings_ahead(house):
    ahead = dict([(standing, []) for standing in all_standings(house[0])])
    for standing in all_standings(house[0]):
        for door in house[1]:
            ahead[through(door, standing)].append(standing)
    return ahead


# Going back from the single rooms finds all at once, where a search from each
# standing would go the same ways again and again.
def standings_that_gather(house):
    ahead = standings_ahead(house)
    gathers = dict([((room,), True) for room in range(house[0])])
    waiting = list(gathers)
    while waiting:
        behind = waiting.pop()
        for standing in ahead[behind]:
            if standing not in gathers:
                gathers[standing] = True
                waiting.append(standing)
    return list(gathers)


def sorted_out(house):
    need_house(house)
    sizes = [len(standing) for standing in all_standings(house[0])]
    gathering = [len(standing) for standing in standings_that_gather(house)]
    return [(sizes.count(many), gathering.count(many)) for many in range(1, house[0] + 1)]


def joined(house, row):
    need_house(house)
    need_row(row, house)
    if len(house[1]) == MOST_DOORS:
        raise NoRow("the house can have no door more")
    door = tuple([behind_row(house, (room,), row)[0] for room in range(house[0])])
    return (house[0], house[1] + (door,))
