"""What is a web, a house, places, a row, names; and the refusals of what is none."""

from gatherall.errors import NoHouse, NoNames, NoPlaces, NoRow, NoWeb

MOST_PLACES = 8
MOST_DOORS = 3
MOST_IN_ROW = 60


def is_number(thing, least, most):
    # True and False are numbers to Python, but not here.
    if isinstance(thing, bool) or not isinstance(thing, int):
        return False
    return least <= thing <= most


def are_numbers(thing, least, most):
    return isinstance(thing, tuple) and all([is_number(each, least, most) for each in thing])


def is_rising(things):
    return all([things[k] < things[k + 1] for k in range(len(things) - 1)])


def are_places(thing, many):
    return are_numbers(thing, 0, many - 1) and len(thing) >= 1 and is_rising(thing)


def is_tie(thing, many):
    return are_places(thing, many) and len(thing) == 2


def is_door(thing, many):
    return are_numbers(thing, 0, many - 1) and len(thing) == many


def is_broken_door(thing, many):
    if not isinstance(thing, tuple) or len(thing) != many:
        return False
    return all([each is None or is_number(each, 0, many - 1) for each in thing])


def is_each_once(thing, many):
    return are_numbers(thing, 0, many - 1) and sorted(thing) == list(range(many))


# Webs and houses are alike so far: so this is asked in one place.
def is_number_and_tuple(thing):
    if not isinstance(thing, tuple) or len(thing) != 2:
        return False
    return is_number(thing[0], 1, MOST_PLACES) and isinstance(thing[1], tuple)


def is_web(thing):
    if not is_number_and_tuple(thing):
        return False
    # Only what are ties can be compared: so they are looked at first.
    return all([is_tie(each, thing[0]) for each in thing[1]]) and is_rising(thing[1])


def may_hold_doors(thing):
    return is_number_and_tuple(thing) and 1 <= len(thing[1]) <= MOST_DOORS


def is_house(thing):
    return may_hold_doors(thing) and all([is_door(each, thing[0]) for each in thing[1]])


def is_broken_house(thing):
    return may_hold_doors(thing) and all([is_broken_door(each, thing[0]) for each in thing[1]])


def is_row(thing, house):
    return are_numbers(thing, 0, len(house[1]) - 1) and len(thing) <= MOST_IN_ROW


def need_web(web):
    if not is_web(web):
        raise NoWeb("this is no web")


def need_house(house):
    if not is_house(house):
        raise NoHouse("this is no house")


def need_broken_house(broken):
    if not is_broken_house(broken):
        raise NoHouse("this is no broken house")


def need_places(places, many):
    if not are_places(places, many):
        raise NoPlaces("these are no places")


def need_row(row, house):
    if not is_row(row, house):
        raise NoRow("this is no row of doors")


def need_door(door, house):
    if not is_number(door, 0, len(house[1]) - 1):
        raise NoRow("there is no such door")


def need_each_once(names, many):
    if not is_each_once(names, many):
        raise NoNames("these are not all the numbers, each once")
