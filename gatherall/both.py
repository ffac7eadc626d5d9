"""Two houses gone through at once, by one row."""

from gatherall.checks import are_places, need_house, need_places
from gatherall.errors import NoHouse
from gatherall.houses import never_lead_out, never_so_few, row_to_so_few

MOST_ROOMS = 5


def need_two(one, other, places, others):
    need_house(one)
    need_house(other)
    if len(one[1]) != len(other[1]):
        raise NoHouse("these houses have not as many doors")
    if max(one[0], other[0]) > MOST_ROOMS:
        raise NoHouse("one of these houses has too many rooms")
    need_places(places, one[0])
    need_places(others, other[0])


def moved(rooms, by):
    return tuple([room + by for room in rooms])


# Side by side the two are one larger house, where each door leads on either side
# as before: so what is told of one house is told of two. On either side there is
# always a counter: so all have come to one room in each where two rooms are left.
def side_by_side(one, other):
    doors = [one[1][k] + moved(other[1][k], one[0]) for k in range(len(one[1]))]
    return (one[0] + other[0], tuple(doors))


def put_together(many, pair):
    return pair[0] + moved(pair[1], many)


def taken_apart(many, standing):
    first = tuple([room for room in standing if room < many])
    return (first, moved(standing[len(first):], -many))


def both_row(one, other, places, others):
    need_two(one, other, places, others)
    return row_to_so_few(side_by_side(one, other), put_together(one[0], (places, others)), 2)


def both_bar(one, other, places, others):
    need_two(one, other, places, others)
    standings = never_so_few(side_by_side(one, other), put_together(one[0], (places, others)), 2)
    if standings is None:
        return None
    return sorted([taken_apart(one[0], standing) for standing in standings])


def is_pair_apart(thing, one, other):
    if not isinstance(thing, tuple) or len(thing) != 2:
        return False
    if not are_places(thing[0], one[0]) or not are_places(thing[1], other[0]):
        return False
    return len(thing[0]) > 1 or len(thing[1]) > 1


def is_both_bar(one, other, places, others, thing):
    need_two(one, other, places, others)
    if not isinstance(thing, list) or not all([is_pair_apart(each, one, other) for each in thing]):
        return False
    standings = [put_together(one[0], pair) for pair in thing]
    return never_lead_out(side_by_side(one, other), put_together(one[0], (places, others)), standings)
