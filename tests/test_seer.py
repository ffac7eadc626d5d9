import inspect
import itertools
import random
import unittest

from gatherall.errors import Against, NoHouse, NoPlaces, NoRow, NoSigns, Nothing
from gatherall.signs import Seer, asking, can_be
from tests.things import (
    ODD, WRONG_HOUSES, Refusing, slow_house, slow_parts, slow_row, slow_seen, some_house, some_signs, subsets,
    wrong_places, wrong_signs,
)

ONE = (1, ((0,),))
TWO = (2, ((0, 1), (1, 1)))
# Door 0 goes round, door 1 exchanges rooms 0 and 1.
TURN = (4, ((1, 2, 3, 0), (1, 0, 2, 3)))
LAST = (0, 0, 0, 1)
# By asking 5 doors are enough.
ASK = (6, ((0, 3, 2, 5, 4, 3), (5, 3, 4, 2, 0, 1)))
ASK_SIGNS = (0, 0, 0, 1, 1, 1)
SEVEN = (7, ((1, 2, 3, 4, 5, 6, 0),))


def all_told(seer):
    return (seer.rooms(), seer.went(), seer.needed(), seer.best())


def slow_needs(house, signs):
    """How many doors are needed from each part of the rooms, told by sweeps till nothing changes."""
    parts = [frozenset(part) for part in subsets(house[0])]
    needs = {part: 0 if len(part) == 1 else None for part in parts}
    changed = True
    while changed:
        changed = False
        for part in parts:
            worst = [slow_worst(needs, house, signs, part, door) for door in range(len(house[1]))]
            found = [1 + count for count in worst if count is not None]
            if len(part) > 1 and found and (needs[part] is None or min(found) < needs[part]):
                needs[part] = min(found)
                changed = True
    return needs


def slow_worst(needs, house, signs, part, door):
    counts = [needs[each] for each in slow_parts({house[1][door][room] for room in part}, signs)]
    return None if None in counts else max(counts)


def slow_told(house, signs, places, sign, went):
    """What a seer tells, found without any seer."""
    row = tuple(door for door, each in went)
    seen = (sign,) + tuple(each for door, each in went)
    ways = [slow_seen(house, signs, room, row) for room in places]
    rooms = sorted({end for was_seen, end in ways if was_seen == seen})
    needs = slow_needs(house, signs)
    count = needs[frozenset(rooms)]
    best = None
    if count:
        worst = [slow_worst(needs, house, signs, frozenset(rooms), door) for door in range(len(house[1]))]
        best = worst.index(count - 1)
    return (rooms, list(went), count, best)


class TestGoing(unittest.TestCase):
    def test_by_hand(self):
        seer = Seer(TURN, LAST, (0, 1, 2, 3), 0)
        self.assertEqual(all_told(seer), ([0, 1, 2], [], 2, 0))
        self.assertEqual(seer.go(1, 0), 3)
        self.assertEqual(all_told(seer), ([0, 1, 2], [(1, 0)], 2, 0))
        self.assertEqual(seer.go(0, 0), 2)
        self.assertEqual(all_told(seer), ([1, 2], [(1, 0), (0, 0)], 1, 0))
        self.assertEqual(seer.go(0, 1), 1)
        self.assertEqual(all_told(seer), ([3], [(1, 0), (0, 0), (0, 1)], 0, None))
        self.assertEqual(seer.go(0, 0), 1)
        self.assertEqual(all_told(seer), ([0], [(1, 0), (0, 0), (0, 1), (0, 0)], 0, None))

    def test_the_first_sign_counts(self):
        self.assertEqual(all_told(Seer(TURN, LAST, (0, 1, 2, 3), 1)), ([3], [], 0, None))
        self.assertEqual(all_told(Seer(TURN, LAST, (1, 3), 0)), ([1], [], 0, None))
        self.assertEqual(all_told(Seer(TURN, LAST, (0, 2), 0)), ([0, 2], [], 1, 0))
        self.assertEqual(all_told(Seer(ONE, (3,), (0,), 3)), ([0], [], 0, None))

    def test_where_one_may_never_know(self):
        seer = Seer((4, ((1, 0, 3, 2),)), (0, 1, 0, 1), (0, 1, 2), 0)
        self.assertEqual(all_told(seer), ([0, 2], [], None, None))
        self.assertEqual(seer.go(0, 1), 2)
        self.assertEqual(all_told(seer), ([1, 3], [(0, 1)], None, None))
        self.assertEqual(all_told(Seer((4, ((1, 0, 3, 2),)), (0, 1, 0, 1), (0, 1, 2), 1)), ([1], [], 0, None))

    def test_the_first_of_the_best_doors(self):
        self.assertEqual(Seer((3, ((0, 1, 2), (2, 1, 0), (0, 2, 1))), (0, 0, 1), (0, 1), 0).best(), 1)
        self.assertEqual(Seer((3, ((0, 1, 2), (0, 1, 2), (0, 2, 1))), (0, 0, 1), (0, 1), 0).best(), 2)
        self.assertEqual(Seer((3, ((2, 1, 0), (0, 2, 1))), (0, 0, 1), (0, 1), 0).best(), 0)

    def test_rooms_that_meet(self):
        seer = Seer((3, ((2, 2, 1),)), (0, 0, 0), (0, 1, 2), 0)
        self.assertEqual([seer.go(0, 0), seer.rooms()], [2, [1, 2]])
        self.assertEqual([seer.go(0, 0), seer.rooms()], [2, [1, 2]])
        seer = Seer((3, ((2, 2, 2),)), (0, 0, 0), (0, 1, 2), 0)
        self.assertEqual(all_told(seer), ([0, 1, 2], [], 1, 0))
        self.assertEqual([seer.go(0, 0), seer.rooms()], [1, [2]])

    def test_one_who_chooses_the_best_doors(self):
        """Whichever room one is in, so many doors are enough; for one of them so many are needed."""
        for house, signs in [(TURN, LAST), (ASK, ASK_SIGNS), (slow_house(5), (1, 0, 0, 0, 0))]:
            places = tuple(range(house[0]))
            counts = []
            for room in places:
                seer = Seer(house, signs, places, signs[room])
                while seer.needed():
                    before = seer.needed()
                    door = seer.best()
                    room = house[1][door][room]
                    seer.go(door, signs[room])
                    self.assertLess(seer.needed(), before)
                self.assertEqual(seer.rooms(), [room])
                counts.append(len(seer.went()))
            self.assertEqual(max(counts), asking(house, signs, places))
        self.assertEqual(asking(ASK, ASK_SIGNS, (0, 1, 2, 3, 4, 5)), 5)

    def test_without_signs_it_is_the_row_by_which_all_gather(self):
        for many in range(2, 7):
            seer = Seer(slow_house(many), (2,) * many, tuple(range(many)), 2)
            while seer.needed():
                seer.go(seer.best(), 2)
            self.assertEqual(tuple(door for door, sign in seer.went()), slow_row(many))

    def test_more_doors_than_a_row_may_have(self):
        seer = Seer(TURN, (0, 0, 0, 0), (0, 2), 0)
        for turn in range(101):
            self.assertEqual(seer.go(0, 0), 2)
        self.assertEqual(seer.rooms(), [1, 3])
        self.assertEqual(seer.went(), [(0, 0)] * 101)
        for turn in range(101):
            self.assertEqual(seer.undo(), (0, 0))
        self.assertEqual((seer.rooms(), seer.went()), ([0, 2], []))

    def test_beside_slow_searches(self):
        chance = random.Random(71)
        for turn in range(60):
            many = chance.randrange(1, 6)
            house = some_house(chance, many, chance.choice((1, 2, 3)))
            signs = some_signs(chance, many, chance.choice((1, 2, 4)))
            places = chance.choice(subsets(many))
            sign = signs[chance.choice(places)]
            seer = Seer(house, signs, places, sign)
            went = []
            for step in range(10):
                told = all_told(seer)
                self.assertEqual(told, slow_told(house, signs, places, sign, went))
                seen = (sign,) + tuple(each for door, each in went)
                self.assertEqual(told[0], can_be(house, signs, places, tuple(door for door, each in went), seen))
                if went and chance.random() < 0.4:
                    self.assertEqual(seer.undo(), went.pop())
                else:
                    door = chance.randrange(len(house[1]))
                    went.append((door, signs[house[1][door][chance.choice(told[0])]]))
                    self.assertEqual(seer.go(*went[-1]), len(slow_told(house, signs, places, sign, went)[0]))


class TestTakenBack(Refusing):
    def test_by_hand(self):
        seer = Seer(TURN, LAST, (0, 1, 2), 0)
        for door, sign in [(0, 0), (1, 0), (0, 0), (0, 0), (0, 1)]:
            seer.go(door, sign)
        self.assertEqual(seer.went(), [(0, 0), (1, 0), (0, 0), (0, 0), (0, 1)])
        self.assertEqual(seer.rooms(), [3])
        self.assertEqual([seer.undo(), seer.rooms()], [(0, 1), [2]])
        self.assertEqual([seer.undo(), seer.rooms()], [(0, 0), [1]])
        self.assertEqual([seer.undo(), seer.rooms()], [(0, 0), [0, 2]])
        self.assertEqual(all_told(seer), ([0, 2], [(0, 0), (1, 0)], 1, 0))
        self.assertEqual([seer.go(0, 1), seer.rooms(), seer.went()], [1, [3], [(0, 0), (1, 0), (0, 1)]])
        self.assertEqual([seer.undo(), seer.undo(), seer.undo()], [(0, 1), (1, 0), (0, 0)])
        self.assertEqual(all_told(seer), ([0, 1, 2], [], 2, 0))

    def test_nothing(self):
        for house, signs, places in [(ONE, (0,), (0,)), (TWO, (0, 0), (0, 1)), (TURN, LAST, (0, 1, 2))]:
            seer = Seer(house, signs, places, 0)
            before = all_told(seer)
            for turn in range(3):
                self.refused(Nothing, seer.undo)
                self.assertEqual(all_told(seer), before)
            seer.go(0, 0)
            behind = all_told(seer)
            self.assertEqual(seer.undo(), (0, 0))
            self.refused(Nothing, seer.undo)
            self.assertEqual(all_told(seer), before)
            seer.go(0, 0)
            self.assertEqual(all_told(seer), behind)


class TestSeerRefused(Refusing):
    def test_no_house(self):
        for number, house in enumerate(WRONG_HOUSES):
            with self.subTest(number):
                self.refused(NoHouse, Seer, house, (0, 0), (0,), 0)

    def test_no_signs(self):
        for house in (ONE, TWO, TURN, SEVEN):
            for number, signs in enumerate(wrong_signs(house[0])):
                with self.subTest(many=house[0], wrong=number):
                    self.refused(NoSigns, Seer, house, signs, (0,), 0)

    def test_no_places(self):
        for house in (ONE, TWO, TURN, SEVEN):
            for number, places in enumerate(wrong_places(house[0])):
                with self.subTest(many=house[0], wrong=number):
                    self.refused(NoPlaces, Seer, house, (0,) * house[0], places, 0)

    def test_more_than_six_rooms(self):
        self.refused(NoHouse, Seer, SEVEN, (0,) * 7, (0,), 0)
        self.refused(NoHouse, Seer, SEVEN, (0,) * 7, (0,), 4)
        self.refused(NoHouse, Seer, SEVEN, (0,) * 7, (0,), 1)
        self.refused(NoHouse, Seer, (8, (tuple(range(8)),)), (0,) * 8, (0, 1), 0)
        self.assertEqual(Seer((6, (tuple(range(6)),)), (0,) * 6, (0, 5), 0).rooms(), [0, 5])

    def test_no_sign(self):
        for number, sign in enumerate(ODD + [4, 5, -1, -4, (), (0,), [0], "0", {0: 0}]):
            with self.subTest(number):
                self.refused(NoSigns, Seer, TURN, (1, 0, 1, 0), (0, 1), sign)
                self.refused(NoSigns, Seer, TURN, (3, 2, 3, 2), (0, 1), sign)

    def test_against(self):
        for signs in itertools.product(range(4), repeat=2):
            for places in subsets(2):
                for sign in range(4):
                    rooms = [room for room in places if signs[room] == sign]
                    if rooms:
                        self.assertEqual(Seer(TWO, signs, places, sign).rooms(), rooms)
                    else:
                        self.refused(Against, Seer, TWO, signs, places, sign)

    def test_the_first_named(self):
        right = (TWO, (0, 0), (0,), 0)
        wrong = ((2, ((0, 2),)), (0, 0, 0), (2,), 4)
        errors = (NoHouse, NoSigns, NoPlaces, NoSigns)
        for chosen in itertools.product([False, True], repeat=4):
            handed_in = [wrong[k] if chosen[k] else right[k] for k in range(4)]
            if any(chosen):
                self.refused(errors[chosen.index(True)], Seer, *handed_in)
        self.refused(NoSigns, Seer, SEVEN, (0,) * 6, (9,), 4)
        self.refused(NoPlaces, Seer, SEVEN, (0,) * 7, (9,), 4)
        self.refused(NoPlaces, Seer, TWO, (0, 0), (), 1)


class TestGoRefused(Refusing):
    def seers(self):
        for house, signs in [(ONE, (0,)), (TWO, (0, 1)), (TURN, LAST), (ASK, ASK_SIGNS)]:
            for sign in sorted(set(signs)):
                seer = Seer(house, signs, tuple(range(house[0])), sign)
                yield seer, house, signs
                room = house[1][0][seer.rooms()[0]]
                seer.go(0, signs[room])
                yield seer, house, signs

    def test_no_such_door(self):
        for seer, house, signs in self.seers():
            before = all_told(seer)
            doors = len(house[1])
            for number, door in enumerate(ODD + [doors, doors + 1, -1, -doors, (), (0,), [0], "0", {0: 0}]):
                with self.subTest(doors=doors, wrong=number):
                    for sign in (0, 1, 3, 4, None):
                        self.refused(NoRow, seer.go, door, sign)
            self.assertEqual(all_told(seer), before)

    def test_no_sign(self):
        for seer, house, signs in self.seers():
            before = all_told(seer)
            for number, sign in enumerate(ODD + [4, 5, -1, -4, (), (0,), [0], "0", {0: 0}]):
                with self.subTest(many=house[0], wrong=number):
                    for door in range(len(house[1])):
                        self.refused(NoSigns, seer.go, door, sign)
            self.assertEqual(all_told(seer), before)

    def test_against(self):
        for seer, house, signs in self.seers():
            before = all_told(seer)
            for door, sign in itertools.product(range(len(house[1])), range(4)):
                behind = {house[1][door][room] for room in before[0]}
                left = sorted(room for room in behind if signs[room] == sign)
                if left:
                    self.assertEqual(seer.go(door, sign), len(left))
                    self.assertEqual(seer.rooms(), left)
                    self.assertEqual(seer.undo(), (door, sign))
                else:
                    self.refused(Against, seer.go, door, sign)
                self.assertEqual(all_told(seer), before)

    def test_what_is_refused_can_not_be_taken_back(self):
        seer = Seer(TURN, LAST, (0, 1, 2), 0)
        seer.go(1, 0)
        self.refused(NoRow, seer.go, 2, 0)
        self.refused(NoSigns, seer.go, 0, 4)
        self.refused(Against, seer.go, 0, 3)
        self.assertEqual(seer.undo(), (1, 0))
        self.refused(Nothing, seer.undo)
        self.assertEqual(all_told(seer), ([0, 1, 2], [], 2, 0))


class TestSeveralSeers(unittest.TestCase):
    def test_they_do_not_change_each_other(self):
        one = Seer(TURN, LAST, (0, 1, 2, 3), 0)
        other = Seer(TURN, LAST, (0, 1, 2, 3), 0)
        one.go(0, 0)
        self.assertEqual(all_told(other), ([0, 1, 2], [], 2, 0))
        other.go(0, 1)
        self.assertEqual(all_told(one), ([1, 2], [(0, 0)], 1, 0))
        self.assertEqual(all_told(other), ([3], [(0, 1)], 0, None))
        self.assertEqual(one.undo(), (0, 0))
        self.assertEqual(all_told(other), ([3], [(0, 1)], 0, None))
        self.assertEqual(all_told(one), ([0, 1, 2], [], 2, 0))

    def test_lists_that_were_told_are_changed(self):
        seer = Seer(TURN, LAST, (0, 1, 2, 3), 0)
        seer.go(1, 0)
        for turn in range(3):
            seer.rooms().append(3)
            seer.rooms().clear()
            seer.went().append((0, 0))
            seer.went().clear()
            self.assertEqual(all_told(seer), ([0, 1, 2], [(1, 0)], 2, 0))
        rooms = seer.rooms()
        went = seer.went()
        seer.go(0, 0)
        self.assertEqual((rooms, went), ([0, 1, 2], [(1, 0)]))
        self.assertEqual(seer.undo(), (0, 0))
        went.clear()
        self.assertEqual(seer.undo(), (1, 0))

    def test_equal_calls_give_equal_answers(self):
        chance = random.Random(72)
        for turn in range(20):
            house = some_house(chance, 4, 3)
            same = (4, tuple(tuple(list(door)) for door in house[1]))
            one = Seer(house, (0, 1, 0, 1), (0, 1, 2), 0)
            other = Seer(same, tuple([0, 1, 0, 1]), tuple([0, 1, 2]), 0)
            for step in range(10):
                if one.went() and chance.random() < 0.4:
                    self.assertEqual(one.undo(), other.undo())
                else:
                    door = chance.randrange(3)
                    sign = house[1][door][one.rooms()[0]] % 2
                    self.assertEqual(one.go(door, sign), other.go(door, sign))
                self.assertEqual(all_told(one), all_told(other))


class TestInterface(unittest.TestCase):
    def test_arguments(self):
        wanted = {"rooms": [], "go": ["door", "sign"], "needed": [], "best": [], "went": [], "undo": []}
        for name, arguments in wanted.items():
            self.assertEqual(list(inspect.signature(getattr(Seer, name)).parameters), ["self"] + arguments)

    def test_kinds(self):
        seer = Seer(house=TURN, signs=LAST, places=(0, 1, 2), sign=0)
        told = [seer.rooms(), seer.go(door=0, sign=0), seer.went(), seer.went()[0]]
        told += [seer.needed(), seer.best(), seer.undo()]
        self.assertEqual([type(each) for each in told], [list, int, list, tuple, int, int, tuple])


if __name__ == "__main__":
    unittest.main()
