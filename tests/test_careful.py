import inspect
import itertools
import random
import unittest

from gatherall import careful, houses
from gatherall.careful import careful_bar, careful_led, careful_reached, careful_row, is_careful_bar, open_doors
from gatherall.errors import NoRow
from tests.things import (
    ODD, Refusing, levels, slow_careful_led, slow_house, slow_row, some_broken_house, some_house, subsets,
)

# Room 3 has no way out; door 1 leads nowhere from room 0.
GAPS = (4, ((1, 2, 2, None), (None, 0, 1, None)))
SHUT = (3, ((None, None, None),))
# The counters gather by no fewer than 75 doors.
FAR = (8, (
    (None, None, None, None, 4, 7, None, None), (None, 2, None, 4, 5, 0, 4, 3), (7, 6, 1, 2, 0, 3, 5, 4),
))
FAR_PLACES = (0, 1, 2, 3, 4, 5)


def behind(broken):
    return lambda standing, door: slow_careful_led(broken, standing, (door,))


def slow_careful_reached(broken, places):
    return sorted(set().union(*levels(places, len(broken[1]), behind(broken))))


def fewest_careful_doors(broken, places):
    for count, level in enumerate(levels(places, len(broken[1]), behind(broken))):
        if any(len(standing) == 1 for standing in level):
            return count
    return None


def slow_careful_row(broken, places, longest):
    for many in range(longest + 1):
        for row in itertools.product(range(len(broken[1])), repeat=many):
            standing = slow_careful_led(broken, places, row)
            if standing is not None and len(standing) == 1:
                return row
    return None


def bars(broken, places, standings):
    came = {slow_careful_led(broken, each, (door,)) for each in standings for door in range(len(broken[1]))}
    return came - {None} <= set(standings) and places in standings and min(map(len, standings)) > 1


def small_asked():
    """All broken houses of up to two rooms and two doors, and some of three, with all standings."""
    found = []
    for many in (1, 2):
        doors = list(itertools.product([None] + list(range(many)), repeat=many))
        found += [(many, chosen) for number in (1, 2) for chosen in itertools.product(doors, repeat=number)]
    chance = random.Random(51)
    found += [some_broken_house(chance, 3, chance.choice((1, 2, 3)), chance.choice((0, 0.2, 0.4))) for turn in range(60)]
    return [(broken, places) for broken in found for places in subsets(broken[0])]


def large_asked():
    chance = random.Random(52)
    for turn in range(80):
        many = chance.choice((4, 5, 6, 7, 8))
        broken = some_broken_house(chance, many, chance.choice((1, 2, 3)), chance.choice((0.05, 0.1, 0.3)))
        yield (broken, chance.choice(subsets(many)))
    for turn in range(40):
        many = chance.choice((5, 6, 8))
        doors = [chance.sample(range(many), many) for door in range(3)]
        for change in range(4):
            chance.choice(doors)[chance.randrange(many)] = chance.choice((None, None, 0, many - 1))
        yield ((many, tuple(map(tuple, doors))), chance.choice(subsets(many)))
    yield (FAR, FAR_PLACES)


class TestOpenDoors(unittest.TestCase):
    def test_by_hand(self):
        self.assertEqual(open_doors(GAPS, (0,)), [0])
        self.assertEqual(open_doors(GAPS, (1,)), [0, 1])
        self.assertEqual(open_doors(GAPS, (1, 2)), [0, 1])
        self.assertEqual(open_doors(GAPS, (0, 1, 2)), [0])
        self.assertEqual(open_doors(GAPS, (3,)), [])
        self.assertEqual(open_doors(GAPS, (1, 3)), [])
        self.assertEqual(open_doors(SHUT, (0, 1, 2)), [])
        self.assertEqual(open_doors((2, ((None, 0), (0, None), (1, 1))), (0,)), [1, 2])
        self.assertEqual(open_doors((2, ((None, 0), (0, None), (1, 1))), (1,)), [0, 2])
        self.assertEqual(open_doors((2, ((None, 0), (0, None), (1, 1))), (0, 1)), [2])
        self.assertEqual(open_doors((1, ((0,), (None,), (0,))), (0,)), [0, 2])

    def test_beside_the_words(self):
        for broken, places in small_asked() + list(large_asked()):
            doors = range(len(broken[1]))
            want = [door for door in doors if all(broken[1][door][room] is not None for room in places)]
            self.assertEqual(open_doors(broken, places), want)


class TestCarefulLed(Refusing):
    def test_by_hand(self):
        self.assertEqual(careful_led(GAPS, (0, 1, 2), ()), (0, 1, 2))
        self.assertEqual(careful_led(GAPS, (0, 1, 2), (0,)), (1, 2))
        self.assertEqual(careful_led(GAPS, (0, 1, 2), (0, 1)), (0, 1))
        self.assertEqual(careful_led(GAPS, (0, 1, 2), (0, 1, 0, 0)), (2,))
        self.assertEqual(careful_led(GAPS, (3,), ()), (3,))
        self.assertEqual(careful_led(SHUT, (0, 2), ()), (0, 2))

    def test_no_row_where_they_can_not_go(self):
        self.refused(NoRow, careful_led, GAPS, (0, 1, 2), (1,))
        self.refused(NoRow, careful_led, GAPS, (0, 1, 2), (0, 1, 1))
        self.refused(NoRow, careful_led, GAPS, (0, 1, 2), (0, 1, 1, 0))
        self.refused(NoRow, careful_led, GAPS, (0, 1, 2), (1, 0, 0))
        self.refused(NoRow, careful_led, GAPS, (3,), (0,))
        self.refused(NoRow, careful_led, GAPS, (2, 3), (0,))
        self.refused(NoRow, careful_led, SHUT, (1,), (0,))
        self.refused(NoRow, careful_led, SHUT, (1,), (0,) * 60)

    def test_each_counter_counts(self):
        for room in range(4):
            door = tuple(None if each == room else each for each in range(4))
            for places in subsets(4):
                if room in places:
                    self.refused(NoRow, careful_led, (4, (door,)), places, (0,))
                else:
                    self.assertEqual(careful_led((4, (door,)), places, (0,)), places)

    def test_rows_of_sixty(self):
        house = (3, ((1, 0, None), (None, 2, None)))
        self.assertEqual(careful_led(house, (0, 1), (0,) * 60), (0, 1))
        self.assertEqual(careful_led(house, (0,), (0,) * 59 + (1,)), (2,))
        self.refused(NoRow, careful_led, house, (1,), (0,) * 59 + (1,))
        self.refused(NoRow, careful_led, house, (0, 1), (0,) * 61)

    def test_beside_slow_going(self):
        chance = random.Random(53)
        told = []
        for broken, places in small_asked() + list(large_asked()):
            for length in (1, 2, 5):
                row = tuple(chance.randrange(len(broken[1])) for door in range(length))
                want = slow_careful_led(broken, places, row)
                told.append(want)
                if want is None:
                    self.refused(NoRow, careful_led, broken, places, row)
                else:
                    self.assertEqual(careful_led(broken, places, row), want)
        self.assertGreater(told.count(None), 100)
        self.assertGreater(len(told) - told.count(None), 100)


class TestCarefulReached(unittest.TestCase):
    def test_by_hand(self):
        self.assertEqual(careful_reached(GAPS, (0, 1, 2)), [(0,), (0, 1), (0, 1, 2), (1,), (1, 2), (2,)])
        self.assertEqual(careful_reached(GAPS, (2, 3)), [(2, 3)])
        self.assertEqual(careful_reached(SHUT, (0, 1, 2)), [(0, 1, 2)])
        self.assertEqual(careful_reached((3, ((1, 2, None),)), (0,)), [(0,), (1,), (2,)])
        self.assertEqual(careful_reached((3, ((1, 2, None),)), (0, 1)), [(0, 1), (1, 2)])

    def test_beside_a_slow_search(self):
        for broken, places in small_asked() + list(large_asked()):
            self.assertEqual(careful_reached(broken, places), slow_careful_reached(broken, places))


class TestCarefulRow(unittest.TestCase):
    def test_by_hand(self):
        self.assertEqual(careful_row(GAPS, (0, 1, 2)), (0, 0))
        self.assertEqual(careful_row(GAPS, (1, 2)), (0,))
        self.assertIsNone(careful_row(GAPS, (2, 3)))
        self.assertIsNone(careful_row(SHUT, (0, 1)))
        self.assertIsNone(careful_row((3, ((1, 2, None),)), (0, 1)))

    def test_one_counter_needs_no_door(self):
        self.assertEqual(careful_row(SHUT, (1,)), ())
        self.assertEqual(careful_row((1, ((None,),)), (0,)), ())

    def test_a_door_that_leads_nowhere_from_one_room_is_of_no_use(self):
        self.assertEqual(careful_row((3, ((0, 0, None), (0, 0, 0))), (0, 1)), (0,))
        self.assertEqual(careful_row((3, ((0, 0, None), (0, 0, 0))), (0, 1, 2)), (1,))
        # No counter is lost where a door leads nowhere: they can not go through it at all.
        self.assertIsNone(careful_row((2, ((0, None),)), (0, 1)))

    def test_the_first_of_several(self):
        self.assertEqual(careful_row((2, ((None, 1), (1, 1), (0, 0))), (0, 1)), (1,))
        self.assertEqual(careful_row((2, ((1, 0), (0, 0), (0, 0))), (0, 1)), (1,))

    def test_a_shortest_row_of_more_than_sixty(self):
        row = careful_row(FAR, FAR_PLACES)
        self.assertEqual(len(row), 75)
        self.assertEqual(fewest_careful_doors(FAR, FAR_PLACES), 75)
        self.assertEqual(len(slow_careful_led(FAR, FAR_PLACES, row)), 1)

    def test_beside_all_rows(self):
        for broken, places in small_asked():
            row = careful_row(broken, places)
            count = fewest_careful_doors(broken, places)
            self.assertEqual(None if row is None else len(row), count, (broken, places))
            if row is not None:
                self.assertEqual(row, slow_careful_row(broken, places, count), (broken, places))

    def test_beside_a_slow_search(self):
        for broken, places in large_asked():
            row = careful_row(broken, places)
            self.assertEqual(None if row is None else len(row), fewest_careful_doors(broken, places))
            if row is not None:
                self.assertEqual(len(slow_careful_led(broken, places, row)), 1)
                if len(row) <= 6:
                    self.assertEqual(row, slow_careful_row(broken, places, 6))


class TestCarefulBar(unittest.TestCase):
    def test_by_hand(self):
        self.assertIsNone(careful_bar(GAPS, (0, 1, 2)))
        self.assertIsNone(careful_bar(SHUT, (1,)))
        self.assertTrue(bars(GAPS, (2, 3), careful_bar(GAPS, (2, 3))))
        self.assertTrue(bars(SHUT, (0, 2), careful_bar(SHUT, (0, 2))))

    def test_there_are_such_just_if_there_is_no_row(self):
        found = []
        for broken, places in small_asked() + list(large_asked()):
            told = careful_bar(broken, places)
            found.append(told)
            self.assertEqual(told is None, fewest_careful_doors(broken, places) is not None)
            if told is not None:
                self.assertIs(type(told), list)
                self.assertEqual(told, sorted(set(told)))
                self.assertTrue(bars(broken, places, told), (broken, places))
                self.assertIs(is_careful_bar(broken, places, told), True)
        self.assertGreater(found.count(None), 50)
        self.assertGreater(len(found) - found.count(None), 50)


class TestIsCarefulBar(unittest.TestCase):
    def test_by_hand(self):
        house = (4, ((1, 2, 3, None), (None, None, 2, 3)))
        chain = [(0, 1), (1, 2), (2, 3)]
        self.assertIs(is_careful_bar(house, (0, 1), chain), True)
        self.assertIs(is_careful_bar(house, (0, 1), chain[::-1]), True)
        self.assertIs(is_careful_bar(house, (0, 1), chain + chain), True)
        self.assertIs(is_careful_bar(house, (1, 2), chain), True)
        self.assertIs(is_careful_bar(house, (0, 2), chain), False)
        self.assertIs(is_careful_bar(house, (0, 1), chain[:2]), False)
        self.assertIs(is_careful_bar(house, (0, 1), chain[1:]), False)
        self.assertIs(is_careful_bar(house, (2, 3), chain[2:]), True)
        self.assertIs(is_careful_bar(house, (0, 1), chain + [(0, 3)]), True)
        self.assertIs(is_careful_bar(house, (0, 1), chain + [(3,)]), False)

    def test_where_no_door_is_open_one_standing_bars(self):
        self.assertIs(is_careful_bar(SHUT, (0, 1), [(0, 1)]), True)
        self.assertIs(is_careful_bar(SHUT, (0, 1), [(0, 2)]), False)
        self.assertIs(is_careful_bar(SHUT, (0, 1), []), False)
        self.assertIs(is_careful_bar(SHUT, (0,), [(0,)]), False)

    def test_beside_the_words(self):
        asked = [
            SHUT, (3, ((1, 2, None),)), (3, ((1, None, 2), (0, 2, 1))), (3, ((0, 1, 1), (None, 2, 1))),
            (3, ((1, 2, 0), (None, None, 0))), (3, ((1, 2, 0),)),
        ]
        for broken in asked:
            standings = subsets(3)
            for size in range(1, len(standings) + 1):
                for listed in itertools.combinations(standings, size):
                    for places in standings:
                        self.assertIs(is_careful_bar(broken, places, list(listed)), bars(broken, places, listed))

    def test_what_are_none(self):
        broken = (3, ((0, 1, None), (None, None, None)))
        self.assertIs(is_careful_bar(broken, (0, 1), [(0, 1)]), True)
        wrong = [
            (), ((0, 1),), [()], [(0, 1), ()], [[0, 1]], [(0, 1), [0, 2]], [(1, 0)], [(0, 1), (2, 0)], [(0, 0)],
            [(0, 1), (1, 1)], [(0, 1), (1, 3)], [(0, 1), (-1, 0)], [(0, True)], [(False, 1)], [(False, True)],
            [(0, 1), (True, 2)], [(0, 1), None], [None, (0, 1)], [(0, 1), 1], [(0, 1), "01"], ["01"], [None],
            [(0, 1), (0, "1")], [(0, 1), (0, None)], [(0, 1), (None, None)], [(0, 1), ((0,), 1)], {(0, 1): True},
            {(0, 1)}, {0: (0, 1)}, [(0, 1), {0: 1}], [(0, 1), (0, 10 ** 5000)], [0, 1], (0, 1), [(0, 1, 1)], [(0, 2)],
            [(0, 1), (0,)], [(0, 1), (2,)],
        ]
        itself = [(0, 1)]
        itself.append(itself)
        for place, thing in enumerate([each for each in ODD if each != [(0, 1)]] + wrong + [itself]):
            with self.subTest(place):
                self.assertIs(is_careful_bar(broken, (0, 1), thing), False)


class TestWholeHouses(unittest.TestCase):
    def test_a_house_is_a_broken_house_too(self):
        chance = random.Random(54)
        asked = [(some_house(chance, many, doors), places) for many in (1, 2, 4, 5) for doors in (1, 2, 3)
                 for places in subsets(many)]
        for house, places in asked:
            row = tuple(chance.randrange(len(house[1])) for door in range(4))
            self.assertEqual(open_doors(house, places), list(range(len(house[1]))))
            self.assertEqual(careful_led(house, places, row), houses.led(house, places, row))
            self.assertEqual(careful_reached(house, places), houses.reached(house, places))
            self.assertEqual(careful_row(house, places), houses.gather(house, places))
            self.assertEqual(careful_bar(house, places) is None, houses.bar_of(house, places) is None)

    def test_many_doors(self):
        for many in range(2, 9):
            self.assertEqual(careful_row(slow_house(many), tuple(range(many))), slow_row(many))


class TestInterface(unittest.TestCase):
    def test_arguments(self):
        two = ["broken", "places"]
        wanted = {
            "open_doors": two, "careful_led": two + ["row"], "careful_reached": two, "careful_row": two,
            "careful_bar": two, "is_careful_bar": two + ["thing"],
        }
        for name, arguments in wanted.items():
            self.assertEqual(list(inspect.signature(getattr(careful, name)).parameters), arguments)

    def test_kinds(self):
        lists = [open_doors(GAPS, (0,)), careful_reached(GAPS, (0,)), careful_bar(GAPS, (2, 3))]
        self.assertEqual({type(each) for each in lists}, {list})
        tuples = [careful_led(GAPS, (0,), (0,)), careful_row(GAPS, (0, 1)), lists[1][0], lists[2][0]]
        self.assertEqual({type(each) for each in tuples}, {tuple})
        self.assertIs(type(open_doors(GAPS, (0,))[0]), int)


class TestNothingKept(unittest.TestCase):
    def test_a_list_that_is_changed_changes_nothing(self):
        for ask in (open_doors, careful_reached, careful_bar):
            for places in [(2, 3), (0, 1, 2)]:
                told = ask(GAPS, places)
                if told is not None:
                    before = list(told)
                    told.append(None)
                    self.assertEqual(ask(GAPS, places), before)

    def test_what_is_handed_in_is_as_before(self):
        thing = [(0, 2), (0, 1), (0, 2)]
        self.assertTrue(is_careful_bar(SHUT, (0, 1), thing))
        self.assertEqual(thing, [(0, 2), (0, 1), (0, 2)])
        thing.pop(1)
        self.assertFalse(is_careful_bar(SHUT, (0, 1), thing))
        wrong = [[0, 1], {0: 2}]
        self.assertFalse(is_careful_bar(SHUT, (0, 1), wrong))
        self.assertEqual(wrong, [[0, 1], {0: 2}])

    def test_equal_things_give_equal_answers(self):
        same = (4, tuple(tuple(list(door)) for door in GAPS[1]))
        for ask in (open_doors, careful_reached, careful_row, careful_bar):
            for places in subsets(4):
                self.assertEqual(ask(same, tuple(list(places))), ask(GAPS, places))


if __name__ == "__main__":
    unittest.main()
