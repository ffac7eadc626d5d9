"""Signs in rooms, by which one finds out where one is."""

from gatherall.checks import are_numbers, is_number, need_door, need_house, need_places, need_row
from gatherall.errors import Against, NoHouse, Nothing, NoSigns
from gatherall.houses import all_standings, rows_from, through

MOST_ROOMS = 6
MOST_SIGN = 3


def need_signs(signs, many):
    if not are_numbers(signs, 0, MOST_SIGN) or len(signs) != many:
        raise NoSigns("these are no signs, or not as many as there must be")


def need_house_signs_and_places(house, signs, places):
    need_house(house)
    need_signs(signs, house[0])
    need_places(places, house[0])


def need_few_rooms(house):
    if house[0] > MOST_ROOMS:
        raise NoHouse("this house has too many rooms")


def with_sign(standing, signs, sign):
    return tuple([room for room in standing if signs[room] == sign])


# What one knows of a standing by its sign: the rooms of each sign that is there.
def told_apart(standing, signs):
    return [with_sign(standing, signs, sign) for sign in sorted(set([signs[room] for room in standing]))]


def can_be(house, signs, places, row, seen):
    need_house_signs_and_places(house, signs, places)
    need_row(row, house)
    need_signs(seen, len(row) + 1)
    standing = with_sign(places, signs, seen[0])
    for k in range(len(row)):
        standing = with_sign(through(house[1][row[k]], standing), signs, seen[k + 1])
    return list(standing)


# Who knows where one is knows it behind each further door: so single rooms are left out.
def not_known(standings, signs):
    parts = []
    for standing in standings:
        parts.extend([part for part in told_apart(standing, signs) if len(part) > 1])
    return tuple(sorted(set(parts)))


def telling_row(house, signs, places):
    need_house_signs_and_places(house, signs, places)
    need_few_rooms(house)

    def behind(door, standings):
        return not_known([through(door, standing) for standing in standings], signs)

    return rows_from(not_known([places], signs), house[1], behind).get(())


# None where one of the standings is not among those of which it is told.
def most_needed(needs, standings):
    if not all([standing in needs for standing in standings]):
        return None
    return max([needs[standing] for standing in standings])


# For each door how many are needed behind it, or None.
def needed_behind(house, signs, needs, standing):
    return [most_needed(needs, told_apart(through(door, standing), signs)) for door in house[1]]


def can_be_told(house, signs, needs, standing):
    return any([count is not None for count in needed_behind(house, signs, needs, standing)])


# A dict of how many doors are needed from each standing from which one will know:
# first those of no door, then those that one door brings to these, and so on.
def doors_needed(house, signs):
    needs = {}
    count = 0
    found = [(room,) for room in range(house[0])]
    while found:
        needs.update(dict([(standing, count) for standing in found]))
        unknown = [standing for standing in all_standings(house[0]) if standing not in needs]
        found = [standing for standing in unknown if can_be_told(house, signs, needs, standing)]
        count = count + 1
    return needs


def asking(house, signs, places):
    need_house_signs_and_places(house, signs, places)
    need_few_rooms(house)
    return most_needed(doors_needed(house, signs), told_apart(places, signs))


def left_by_sign(standing, signs, sign):
    if not is_number(sign, 0, MOST_SIGN):
        raise NoSigns("this is no sign")
    left = with_sign(standing, signs, sign)
    if not left:
        raise Against("none of the rooms has this sign")
    return left


class Seer:
    def __init__(self, house, signs, places, sign):
        need_house_signs_and_places(house, signs, places)
        need_few_rooms(house)
        self.house = house
        self.signs = signs
        # What was ruled out can not be found from what is left: so all are kept.
        self.standings = [left_by_sign(places, signs, sign)]
        self.gone = []

    def rooms(self):
        return list(self.standings[-1])

    def go(self, door, sign):
        need_door(door, self.house)
        behind = through(self.house[1][door], self.standings[-1])
        self.standings.append(left_by_sign(behind, self.signs, sign))
        self.gone.append((door, sign))
        return len(self.standings[-1])

    def needed(self):
        return doors_needed(self.house, self.signs).get(self.standings[-1])

    def best(self):
        needs = doors_needed(self.house, self.signs)
        now = needs.get(self.standings[-1])
        # Where one knows already no door is needed, so none is chosen either.
        if now is None or now == 0:
            return None
        return needed_behind(self.house, self.signs, needs, self.standings[-1]).index(now - 1)

    def went(self):
        return list(self.gone)

    def undo(self):
        if not self.gone:
            raise Nothing("there is no door to take back")
        self.standings.pop()
        return self.gone.pop()
