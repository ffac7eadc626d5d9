import functools
import inspect
import itertools
import random
import unittest

from gatherall import signs as module
from gatherall.houses import gather
from gatherall.signs import asking, can_be, telling_row
from tests.things import (
    levels, slow_house, slow_parts, slow_row, slow_seen, some_house, some_signs, subsets,
)

ONE = (1, ((0,),))
# Door 0 goes round, door 1 exchanges rooms 0 and 1.
TURN = (4, ((1, 2, 3, 0), (1, 0, 2, 3)))
LAST = (0, 0, 0, 1)
# Rooms 0 and 1 are told apart by door 0 alone, 2 and 3 by door 1 alone; the other door brings either pair together.
FORK = (6, ((4, 5, 4, 4, 4, 5), (4, 4, 4, 5, 4, 5)))
FORK_SIGNS = (0, 0, 1, 1, 2, 3)
# By asking 5 doors are enough, while a row needs 9.
ASK = (6, ((0, 3, 2, 5, 4, 3), (5, 3, 4, 2, 0, 1)))
ASK_SIGNS = (0, 0, 0, 1, 1, 1)


def slow_can_be(house, signs, places, row, seen):
    ways = [slow_seen(house, signs, room, row) for room in places]
    return sorted({room for was_seen, room in ways if was_seen == seen})


def tells(house, signs, places, row):
    ends = {}
    for room in places:
        seen, end = slow_seen(house, signs, room, row)
        ends.setdefault(seen, set()).add(end)
    return all(len(rooms) == 1 for rooms in ends.values())


def slow_telling_row(house, signs, places, longest):
    for many in range(longest + 1):
        for row in itertools.product(range(len(house[1])), repeat=many):
            if tells(house, signs, places, row):
                return row
    return None


def fewest_telling(house, signs, places):
    """How many doors a telling row has, or None: counted level by level over all parts in which one can be."""
    def behind(parts, door):
        went = [{house[1][door][room] for room in part} for part in parts]
        return frozenset(each for part in went for each in slow_parts(part, signs))

    start = frozenset(slow_parts(places, signs))
    for count, level in enumerate(levels(start, len(house[1]), behind)):
        if any(all(len(part) == 1 for part in parts) for parts in level):
            return count
    return None


def slow_asking(house, signs, places):
    @functools.lru_cache(None)
    def will_know(rooms, doors):
        if len(rooms) == 1:
            return True
        if doors == 0:
            return False
        return any(all(will_know(part, doors - 1) for part in slow_parts({door[room] for room in rooms}, signs))
                   for door in house[1])

    # No part is come to twice by one who chooses well: so as many doors as there are parts are enough.
    for doors in range(2 ** house[0]):
        if all(will_know(part, doors) for part in slow_parts(places, signs)):
            return doors
    return None


def small_asked():
    """All houses of two rooms with up to two doors, and some of three and four, with all signs that matter."""
    doors = list(itertools.product(range(2), repeat=2))
    found = [((2, chosen), (0, sign)) for many in (1, 2) for chosen in itertools.product(doors, repeat=many)
             for sign in (0, 3)]
    chance = random.Random(61)
    for turn in range(80):
        many = chance.choice((3, 4))
        house = some_house(chance, many, chance.choice((1, 2, 3)))
        found.append((house, some_signs(chance, many, chance.choice((1, 2, 3)))))
    return [(house, signs, places) for house, signs in found + [(ONE, (3,))] for places in subsets(house[0])]


def large_asked():
    """Houses of five and six rooms, most of them with doors through which few meet."""
    chance = random.Random(62)
    found = [(TURN, LAST, (0, 1, 2, 3)), (FORK, FORK_SIGNS, (0, 1, 2, 3)), (ASK, ASK_SIGNS, (0, 1, 2, 3, 4, 5))]
    for turn in range(200):
        many = chance.choice((5, 6))
        doors = [chance.sample(range(many), many) for door in range(chance.choice((1, 2, 3)))]
        for change in range(chance.choice((0, 1, 2, 4))):
            chance.choice(doors)[chance.randrange(many)] = chance.randrange(many)
        signs = chance.choice((
            some_signs(chance, many, 2), (0, 0, 1, 1, 2, 2)[:many], (0, 0, 0, 1, 1, 1)[:many], (2,) * many,
            (0,) * (many - 1) + (1,),
        ))
        places = chance.choice(subsets(many) + [tuple(range(many))] * 20)
        found.append(((many, tuple(map(tuple, doors))), signs, places))
    for turn in range(100):
        doors = [tuple(chance.sample(range(6), 6)) for door in range(2)]
        found.append(((6, tuple(doors)), chance.choice(((0, 0, 1, 1, 2, 2), (0, 0, 1, 0, 0, 1))), (0, 1, 2, 3, 4, 5)))
    return found


class TestCanBe(unittest.TestCase):
    def test_by_hand(self):
        self.assertEqual(can_be(TURN, LAST, (0, 1, 2, 3), (), (0,)), [0, 1, 2])
        self.assertEqual(can_be(TURN, LAST, (0, 1, 2, 3), (), (1,)), [3])
        self.assertEqual(can_be(TURN, LAST, (0, 1, 2, 3), (0,), (0, 0)), [1, 2])
        self.assertEqual(can_be(TURN, LAST, (0, 1, 2, 3), (0,), (0, 1)), [3])
        self.assertEqual(can_be(TURN, LAST, (0, 1, 2, 3), (0,), (1, 0)), [0])
        self.assertEqual(can_be(TURN, LAST, (0, 1, 2, 3), (0, 0), (0, 0, 0)), [2])
        self.assertEqual(can_be(TURN, LAST, (0, 1, 2, 3), (0, 1), (0, 0, 0)), [0, 2])
        self.assertEqual(can_be(TURN, LAST, (1, 2), (0, 1, 0), (0, 0, 0, 0)), [])
        self.assertEqual(can_be(ONE, (2,), (0,), (0, 0), (2, 2, 2)), [0])

    def test_where_another_sign_was_seen(self):
        self.assertEqual(can_be(TURN, LAST, (0, 1, 2, 3), (), (2,)), [])
        self.assertEqual(can_be(TURN, LAST, (0, 1, 2), (), (1,)), [])
        self.assertEqual(can_be(TURN, LAST, (0, 1, 2, 3), (0,), (1, 1)), [])
        self.assertEqual(can_be(TURN, LAST, (0, 1, 2, 3), (0,), (0, 3)), [])
        self.assertEqual(can_be(TURN, LAST, (0, 1, 2, 3), (0, 0, 0), (0, 3, 0, 0)), [])
        self.assertEqual(can_be(TURN, LAST, (0, 1, 2, 3), (0, 0), (2, 0, 0)), [])
        self.assertEqual(can_be(ONE, (2,), (0,), (0,), (2, 1)), [])

    def test_rooms_that_meet_are_told_once(self):
        self.assertEqual(can_be((3, ((2, 2, 1),)), (0, 0, 0), (0, 1, 2), (0,), (0, 0)), [1, 2])
        self.assertEqual(can_be((3, ((2, 2, 1),)), (0, 0, 0), (0, 1, 2), (0, 0), (0, 0, 0)), [1, 2])
        self.assertEqual(can_be((3, ((0, 0, 0),)), (0, 0, 0), (0, 1, 2), (0,), (0, 0)), [0])

    def test_up_to_eight_rooms(self):
        around = (8, ((1, 2, 3, 4, 5, 6, 7, 0),))
        for many in (7, 8):
            house = (many, (tuple((room + 1) % many for room in range(many)),))
            signs = (0,) * (many - 1) + (1,)
            places = tuple(range(many))
            self.assertEqual(can_be(house, signs, places, (), (0,)), list(range(many - 1)))
            self.assertEqual(can_be(house, signs, places, (0,) * 3, (0, 0, 0, 1)), [many - 1])
        self.assertEqual(can_be(around, (0, 1, 2, 3, 0, 1, 2, 3), (0, 1, 4), (0, 0), (0, 1, 2)), [2, 6])

    def test_rows_of_sixty(self):
        signs = (0, 1, 2, 3)
        row = (0,) * 60
        self.assertEqual(can_be(TURN, signs, (0, 1), row, (0, 1, 2, 3) * 15 + (0,)), [0])
        self.assertEqual(can_be(TURN, signs, (0, 1), row, (0, 1, 2, 3) * 15 + (1,)), [])
        self.assertEqual(can_be(TURN, (0,) * 4, (0, 1), row, (0,) * 61), [0, 1])

    def test_all_that_can_be_seen(self):
        chance = random.Random(63)
        for house, signs, places in small_asked()[::3]:
            row = tuple(chance.randrange(len(house[1])) for door in range(chance.randrange(4)))
            for seen in itertools.product(range(4), repeat=len(row) + 1):
                self.assertEqual(can_be(house, signs, places, row, seen), slow_can_be(house, signs, places, row, seen))

    def test_long_rows_in_large_houses(self):
        chance = random.Random(64)
        for turn in range(100):
            many = chance.choice((5, 6, 7, 8))
            house = some_house(chance, many, 3)
            signs = some_signs(chance, many, 2)
            places = chance.choice(subsets(many))
            row = tuple(chance.randrange(3) for door in range(chance.randrange(20)))
            seen = slow_seen(house, signs, chance.choice(places), row)[0]
            self.assertEqual(can_be(house, signs, places, row, seen), slow_can_be(house, signs, places, row, seen))


class TestTellingRow(unittest.TestCase):
    def test_by_hand(self):
        self.assertEqual(telling_row(TURN, LAST, (0, 1, 2, 3)), (0, 0))
        self.assertEqual(telling_row(TURN, LAST, (0, 1)), (0, 0))
        self.assertEqual(telling_row(TURN, LAST, (0, 1, 3)), (0, 0))
        self.assertEqual(telling_row(TURN, LAST, (0, 2)), (0,))
        self.assertEqual(telling_row(TURN, LAST, (2, 3)), ())

    def test_one_room_is_known(self):
        self.assertEqual(telling_row(ONE, (3,), (0,)), ())
        self.assertEqual(telling_row(TURN, LAST, (1,)), ())
        self.assertEqual(telling_row((6, ((0,) * 6,)), (0,) * 6, (5,)), ())

    def test_the_first_sign_may_be_enough(self):
        self.assertEqual(telling_row(TURN, (0, 1, 2, 3), (0, 1, 2, 3)), ())
        self.assertEqual(telling_row(TURN, (0, 0, 1, 1), (1, 2)), ())
        self.assertEqual(telling_row(TURN, (0, 0, 1, 1), (0, 1, 2)), (0,))

    def test_the_first_sign_counts_behind_a_row_too(self):
        # Both come to room 2, yet they are told apart from those that came from another sign.
        self.assertEqual(telling_row((4, ((2, 3, 2, 3),)), (0, 0, 1, 1), (0, 2)), ())
        self.assertEqual(telling_row((4, ((2, 3, 3, 2),)), (0, 0, 0, 1), (0, 1)), (0,))
        self.assertEqual(telling_row((6, ((4, 4, 4, 5, 4, 5),)), (0, 0, 1, 1, 2, 3), (0, 1, 2, 3)), (0,))

    def test_none(self):
        self.assertIsNone(telling_row((2, ((0, 1),)), (1, 1), (0, 1)))
        self.assertIsNone(telling_row((2, ((1, 0),)), (1, 1), (0, 1)))
        self.assertIsNone(telling_row((4, ((1, 0, 3, 2),)), (0, 1, 0, 1), (0, 2)))
        self.assertIsNone(telling_row((4, ((1, 0, 3, 2),)), (0, 1, 0, 1), (0, 1, 2)))
        self.assertEqual(telling_row((4, ((1, 0, 3, 2),)), (0, 1, 0, 1), (0, 1)), ())

    def test_rooms_that_meet_are_known(self):
        self.assertEqual(telling_row((3, ((0, 1, 2), (1, 1, 1))), (0, 0, 0), (0, 1, 2)), (1,))
        for many in range(2, 7):
            self.assertEqual(telling_row(slow_house(many), (2,) * many, tuple(range(many))), slow_row(many))

    def test_without_signs_one_knows_where_all_gather(self):
        for house, signs, places in large_asked()[::2]:
            self.assertEqual(telling_row(house, (1,) * house[0], places), gather(house, places))

    def test_the_first_of_several(self):
        self.assertEqual(telling_row((3, ((0, 1, 2), (2, 1, 0), (0, 2, 1))), (0, 0, 1), (0, 1)), (1,))
        self.assertEqual(telling_row((3, ((0, 1, 2), (0, 2, 1), (2, 1, 0))), (0, 0, 1), (0, 1)), (1,))

    def test_beside_all_rows(self):
        told = []
        for house, signs, places in small_asked():
            row = telling_row(house, signs, places)
            told.append(row)
            count = fewest_telling(house, signs, places)
            self.assertEqual(None if row is None else len(row), count, (house, signs, places))
            if row is not None:
                self.assertEqual(row, slow_telling_row(house, signs, places, count), (house, signs, places))
        self.assertGreater(told.count(None), 30)
        self.assertGreater(len([row for row in told if row and len(row) > 1]), 30)

    def test_beside_a_slow_search(self):
        told = []
        for house, signs, places in large_asked():
            row = telling_row(house, signs, places)
            told.append(row)
            self.assertEqual(None if row is None else len(row), fewest_telling(house, signs, places))
            if row is not None:
                self.assertTrue(tells(house, signs, places, row))
                if len(row) <= 7:
                    self.assertEqual(row, slow_telling_row(house, signs, places, 7))
        self.assertGreater(told.count(None), 10)
        self.assertGreater(len([row for row in told if row and len(row) > 3]), 10)


class TestAsking(unittest.TestCase):
    def test_by_hand(self):
        self.assertEqual(asking(TURN, LAST, (0, 1, 2, 3)), 2)
        self.assertEqual(asking(TURN, LAST, (0, 2)), 1)
        self.assertEqual(asking(TURN, LAST, (2, 3)), 0)
        self.assertEqual(asking(ONE, (3,), (0,)), 0)

    def test_what_was_seen_chooses_the_door(self):
        self.assertEqual(asking(FORK, FORK_SIGNS, (0, 1, 2, 3)), 1)
        self.assertEqual(telling_row(FORK, FORK_SIGNS, (0, 1, 2, 3)), (0,))
        # In (0, 1) door 0 tells, in (2, 3) door 1 does; the other door leaves all as it is.
        house = (6, ((4, 5, 2, 3, 4, 5), (0, 1, 4, 5, 4, 5)))
        self.assertEqual(asking(house, FORK_SIGNS, (0, 1, 2, 3)), 1)
        self.assertEqual(telling_row(house, FORK_SIGNS, (0, 1, 2, 3)), (0, 1))

    def test_it_may_be_far_fewer_than_a_row(self):
        self.assertEqual(asking(ASK, ASK_SIGNS, (0, 1, 2, 3, 4, 5)), 5)
        self.assertEqual(telling_row(ASK, ASK_SIGNS, (0, 1, 2, 3, 4, 5)), (0, 1, 0, 0, 1, 0, 0, 1, 0))
        self.assertEqual(slow_asking(ASK, ASK_SIGNS, (0, 1, 2, 3, 4, 5)), 5)
        self.assertEqual(slow_telling_row(ASK, ASK_SIGNS, (0, 1, 2, 3, 4, 5), 9), (0, 1, 0, 0, 1, 0, 0, 1, 0))

    def test_it_counts_the_worst_that_may_be_seen(self):
        house = (5, ((1, 2, 3, 4, 4),))
        signs = (0, 0, 0, 0, 1)
        self.assertEqual(asking(house, signs, (0, 1, 2, 3, 4)), 3)
        self.assertEqual(asking(house, signs, (0, 3)), 1)
        self.assertEqual(asking(house, signs, (0, 1)), 3)
        self.assertEqual(asking(house, signs, (0, 1, 4)), 3)

    def test_none_where_one_may_never_know(self):
        house = (4, ((1, 0, 3, 2),))
        self.assertIsNone(asking(house, (0, 1, 0, 1), (0, 2)))
        # Seen otherwise one would know; yet it may not be seen.
        self.assertIsNone(asking(house, (0, 1, 0, 1), (0, 1, 2)))
        self.assertEqual(asking(house, (0, 1, 0, 1), (0, 1)), 0)
        self.assertIsNone(asking((2, ((0, 1), (1, 0))), (3, 3), (0, 1)))

    def test_without_signs_it_is_as_long_as_the_row(self):
        for many in range(1, 7):
            self.assertEqual(asking(slow_house(many), (0,) * many, tuple(range(many))), (many - 1) ** 2)

    def test_beside_all_ways(self):
        told = []
        for house, signs, places in small_asked() + large_asked():
            told.append(asking(house, signs, places))
            self.assertEqual(told[-1], slow_asking(house, signs, places), (house, signs, places))
        for count in (None, 0, 1, 2, 3):
            self.assertGreater(told.count(count), 10)

    def test_it_is_never_more_than_a_row(self):
        fewer = 0
        for house, signs, places in small_asked() + large_asked():
            row = telling_row(house, signs, places)
            count = asking(house, signs, places)
            if row is not None:
                self.assertLessEqual(count, len(row))
                fewer += count < len(row)
        self.assertGreater(fewer, 10)

    def test_one_may_know_by_asking_just_if_a_row_tells(self):
        for house, signs, places in small_asked() + large_asked():
            self.assertEqual(asking(house, signs, places) is None, telling_row(house, signs, places) is None)


class TestInterface(unittest.TestCase):
    def test_arguments(self):
        three = ["house", "signs", "places"]
        wanted = {"can_be": three + ["row", "seen"], "telling_row": three, "asking": three, "Seer": three + ["sign"]}
        for name, arguments in wanted.items():
            self.assertEqual(list(inspect.signature(getattr(module, name)).parameters), arguments)

    def test_kinds(self):
        self.assertIs(type(can_be(TURN, LAST, (0, 1), (0,), (0, 0))), list)
        self.assertIs(type(can_be(TURN, LAST, (0, 1), (0,), (3, 3))), list)
        self.assertIs(type(can_be(TURN, LAST, (0, 1), (), (0,))[0]), int)
        self.assertIs(type(telling_row(TURN, LAST, (0, 1))), tuple)
        self.assertIs(type(telling_row(TURN, LAST, (3,))), tuple)
        self.assertIs(type(asking(TURN, LAST, (0, 1))), int)
        self.assertIs(type(asking(TURN, LAST, (3,))), int)


if __name__ == "__main__":
    unittest.main()
