"""Counters on a web: one by one, all at once, and the sides that bar it."""

from gatherall.checks import are_numbers, need_places, need_web
from gatherall.errors import Never


def need_web_and_places(web, places):
    need_web(web)
    need_places(places, web[0])


def tied_places(web):
    tied = [[] for place in range(web[0])]
    for tie in web[1]:
        tied[tie[0]].append(tie[1])
        tied[tie[1]].append(tie[0])
    return tied


# Places that can not be come to are left out: so `in` asks whether there is a way.
def fewest_steps(tied, start):
    far = {start: 0}
    waiting = [start]
    while waiting:
        place = waiting.pop(0)
        for other in tied[place]:
            if other not in far:
                far[other] = far[place] + 1
                waiting.append(other)
    return far


# How far each place is from each counter. Left out is where not all can come to.
def ways_to_places(web, places):
    tied = tied_places(web)
    far = [fewest_steps(tied, start) for start in places]
    common = [place for place in range(web[0]) if all([place in each for each in far])]
    return dict([(place, [each[place] for each in far]) for place in common])


def steps(web, places):
    need_web_and_places(web, places)
    ways = ways_to_places(web, places)
    return min([(sum(ways[place]), place) for place in ways], default=None)


def one_move_on(tied, could_be):
    return [place for place in range(len(tied)) if any([other in could_be for other in tied[place]])]


def rounds(web, places):
    need_web_and_places(web, places)
    tied = tied_places(web)
    could_be = [[start] for start in places]
    # Of the walks between two places, the shortest even one and the shortest
    # odd one come to no place twice behind an even number of moves, nor twice
    # behind an odd one: so they have fewer moves than twice the places. Longer
    # ones of either sort are made by going to and fro. So this is far enough.
    for moves in range(2 * web[0]):
        for place in range(web[0]):
            if all([place in each for each in could_be]):
                return (moves, place)
        could_be = [one_move_on(tied, each) for each in could_be]
    return None


# At homeward[k] are the places from which k moves can lead to the walk's end: so
# the least next place among them never has to be taken back.
def least_walk(tied, homeward, start):
    walk = [start]
    for left in range(len(homeward) - 2, -1, -1):
        walk.append(min([other for other in tied[walk[-1]] if other in homeward[left]]))
    return tuple(walk)


def plan(web, places):
    told = rounds(web, places)
    if told is None:
        raise Never("these counters can not gather all at once")
    tied = tied_places(web)
    homeward = [[told[1]]]
    while len(homeward) <= told[0]:
        homeward.append(one_move_on(tied, homeward[-1]))
    return [least_walk(tied, homeward, start) for start in places]


def is_walk(web, start, thing):
    if not are_numbers(thing, 0, web[0] - 1) or len(thing) == 0 or thing[0] != start:
        return False
    tied = tied_places(web)
    return all([thing[k + 1] in tied[thing[k]] for k in range(len(thing) - 1)])


def is_plan(web, places, thing):
    need_web_and_places(web, places)
    if not isinstance(thing, list) or len(thing) != len(places):
        return False
    if not all([is_walk(web, places[k], thing[k]) for k in range(len(places))]):
        return False
    return all([len(walk) == len(thing[0]) and walk[-1] == thing[0][-1] for walk in thing])


def bar(web, places):
    if rounds(web, places) is not None:
        return None
    far = fewest_steps(tied_places(web), places[0])
    if all([place in far for place in places]):
        # With an odd ring among these places the counters could gather: so
        # each tie here joins an even and an odd number of steps.
        return tuple([far[place] % 2 if place in far else 2 for place in range(web[0])])
    return tuple([2 if place in far else 3 for place in range(web[0])])


def may_be_tied(side, other):
    if side >= 2 or other >= 2:
        return side == other
    return side != other


def is_bar(web, places, thing):
    need_web_and_places(web, places)
    if not are_numbers(thing, 0, 3) or len(thing) != web[0]:
        return False
    if not all([may_be_tied(thing[tie[0]], thing[tie[1]]) for tie in web[1]]):
        return False
    return any([thing[place] != thing[places[0]] for place in places])
