"""A game of doors: all go door by door, and back."""

from gatherall.checks import need_door
from gatherall.errors import Nothing
from gatherall.houses import gather, need_house_and_places, through


class Game:
    def __init__(self, house, places):
        need_house_and_places(house, places)
        self.house = house
        # From a standing one can not tell the one ahead of it: so all are kept.
        self.standings = [places]
        self.doors = []

    def places(self):
        return self.standings[-1]

    def row(self):
        return tuple(self.doors)

    def go(self, door):
        need_door(door, self.house)
        self.standings.append(through(self.house[1][door], self.places()))
        self.doors.append(door)
        return len(self.places())

    def left(self):
        shortest = gather(self.house, self.places())
        return None if shortest is None else len(shortest)

    def best(self):
        shortest = gather(self.house, self.places())
        # A row of no doors has no first one either.
        return shortest[0] if shortest else None

    def undo(self):
        if not self.doors:
            raise Nothing("there is no door to take back")
        self.standings.pop()
        return self.doors.pop()
