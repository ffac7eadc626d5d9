"""Webs and houses with other names, houses with their doors in another order."""

from gatherall.checks import need_each_once, need_house, need_web


def renamed_web(web, names):
    need_web(web)
    need_each_once(names, web[0])
    ties = [tuple(sorted([names[tie[0]], names[tie[1]]])) for tie in web[1]]
    return (web[0], tuple(sorted(ties)))


def renamed_door(door, names):
    return tuple([names[door[names.index(name)]] for name in range(len(names))])


def renamed_house(house, names):
    need_house(house)
    need_each_once(names, house[0])
    return (house[0], tuple([renamed_door(door, names) for door in house[1]]))


def reordered(house, order):
    need_house(house)
    need_each_once(order, len(house[1]))
    return (house[0], tuple([house[1][door] for door in order]))
