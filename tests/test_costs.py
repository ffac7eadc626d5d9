import fractions
import inspect
import itertools
import random
import unittest

from gatherall import costs as module
from gatherall.costs import chance, cheapest
from gatherall.errors import NoCosts, NoHouse, NoNumber, NoPlaces
from gatherall.houses import gather
from tests.things import (
    ODD, WRONG_HOUSES, Refusing, slow_house, slow_led, slow_reached, slow_row, some_house, subsets, wrong_places,
)

ONE = (1, ((0,),))
TWO = (2, ((0, 1), (1, 1)))
THREE = (3, ((1, 2, 0), (0, 1, 0)))
# Door 0 brings all to room 0 at once, door 1 two of them at a time.
SHORT = (4, ((0, 0, 0, 0), (0, 0, 1, 2), (0, 1, 2, 3)))
EIGHT = (8, ((1, 2, 3, 4, 5, 6, 7, 0), (0, 0, 2, 3, 4, 5, 6, 7), (0, 1, 2, 3, 4, 5, 6, 7)))


def slow_cost(costs, row):
    return sum(costs[door] for door in row)


def slow_cheapest(house, costs, places, longest):
    """Of all rows up to a length, the one that is to be told."""
    rows = [row for many in range(longest + 1) for row in itertools.product(range(len(house[1])), repeat=many)]
    fitting = [row for row in rows if len(slow_led(house, places, row)) == 1]
    told = [(slow_cost(costs, row), len(row), row) for row in fitting]
    return (min(told)[0], min(told)[2]) if told else None


def swept_cheapest(house, costs, places):
    """Cost and number of doors from each standing on, by sweeps till nothing changes; then the first doors that fit."""
    standings = slow_reached(house, places)
    least = {standing: (0, 0) for standing in standings if len(standing) == 1}
    changed = True
    while changed:
        changed = False
        for standing in standings:
            for door in range(len(house[1])):
                behind = least.get(slow_led(house, standing, (door,)))
                if behind is not None and len(standing) > 1:
                    found = (behind[0] + costs[door], behind[1] + 1)
                    if standing not in least or found < least[standing]:
                        least[standing] = found
                        changed = True
    if places not in least:
        return None
    row = ()
    standing = places
    while len(standing) > 1:
        for door in range(len(house[1])):
            behind = least.get(slow_led(house, standing, (door,)))
            if behind is not None and (behind[0] + costs[door], behind[1] + 1) == least[standing]:
                row += (door,)
                standing = slow_led(house, standing, (door,))
                break
    return (least[places][0], row)


def slow_chance(house, places, many):
    rows = list(itertools.product(range(len(house[1])), repeat=many))
    part = fractions.Fraction(sum(len(slow_led(house, places, row)) == 1 for row in rows), len(rows))
    return (part.numerator, part.denominator)


def some_costs(source, house):
    most = source.choice((0, 1, 2, 5, 99))
    return tuple(source.randint(0, most) for door in house[1])


class TestCheapest(unittest.TestCase):
    def test_by_hand(self):
        self.assertEqual(cheapest(TWO, (0, 7), (0, 1)), (7, (1,)))
        self.assertEqual(cheapest(THREE, (1, 1), (0, 1, 2)), (4, (1, 0, 0, 1)))
        self.assertEqual(cheapest(THREE, (10, 3), (0, 1, 2)), (26, (1, 0, 0, 1)))
        self.assertEqual(cheapest(THREE, (99, 99), (0, 1)), (297, (0, 0, 1)))

    def test_more_doors_may_cost_less(self):
        self.assertEqual(cheapest(SHORT, (4, 1, 9), (0, 1, 2, 3)), (3, (1, 1, 1)))
        self.assertEqual(cheapest(SHORT, (2, 1, 9), (0, 1, 2, 3)), (2, (0,)))
        self.assertEqual(cheapest(SHORT, (99, 33, 0), (0, 1, 2, 3)), (99, (0,)))
        self.assertEqual(cheapest(SHORT, (99, 32, 0), (0, 1, 2, 3)), (96, (1, 1, 1)))

    def test_of_rows_that_cost_as_little_those_of_fewer_doors(self):
        self.assertEqual(cheapest(SHORT, (3, 1, 9), (0, 1, 2, 3)), (3, (0,)))
        # Door 0 is the first one, yet it takes two doors, door 1 but one.
        house = (3, ((0, 0, 1), (0, 0, 0)))
        self.assertEqual(cheapest(house, (1, 2), (0, 1, 2)), (2, (1,)))
        self.assertEqual(cheapest(house, (1, 3), (0, 1, 2)), (2, (0, 0)))
        self.assertEqual(cheapest(house, (0, 0), (0, 1, 2)), (0, (1,)))

    def test_of_as_many_doors_the_first(self):
        self.assertEqual(cheapest((2, ((0, 1), (1, 1), (0, 0))), (0, 5, 5), (0, 1)), (5, (1,)))
        self.assertEqual(cheapest((2, ((0, 1), (1, 1), (0, 0))), (0, 6, 5), (0, 1)), (5, (2,)))
        # (0, 1) and (1, 0) cost as much, and both gather.
        house = (4, ((0, 0, 2, 2), (0, 1, 0, 1)))
        self.assertEqual(cheapest(house, (2, 3), (0, 1, 2, 3)), (5, (0, 1)))
        self.assertEqual(cheapest(house, (3, 2), (0, 1, 2, 3)), (5, (0, 1)))

    def test_doors_that_cost_nothing(self):
        self.assertEqual(cheapest(THREE, (0, 0), (0, 1, 2)), (0, (1, 0, 0, 1)))
        self.assertEqual(cheapest(THREE, (0, 5), (0, 1, 2)), (10, (1, 0, 0, 1)))
        self.assertEqual(cheapest(SHORT, (0, 0, 0), (0, 1, 2, 3)), (0, (0,)))
        self.assertEqual(cheapest(SHORT, (1, 0, 0), (0, 1, 2, 3)), (0, (1, 1, 1)))
        # Door 0 leaves all as it is, and costs nothing: it stands in no row all the same.
        self.assertEqual(cheapest((3, ((0, 1, 2), (0, 0, 1))), (0, 1), (0, 1, 2)), (2, (1, 1)))

    def test_one_counter_needs_no_door(self):
        self.assertEqual(cheapest(ONE, (0,), (0,)), (0, ()))
        self.assertEqual(cheapest(EIGHT, (99, 99, 99), (7,)), (0, ()))

    def test_none(self):
        self.assertIsNone(cheapest((2, ((0, 1),)), (0,), (0, 1)))
        self.assertIsNone(cheapest((2, ((0, 1), (1, 0))), (3, 0), (0, 1)))
        self.assertIsNone(cheapest((8, EIGHT[1][:1]), (5,), (0, 3)))

    def test_where_all_doors_cost_as_much_it_is_the_shortest_row(self):
        source = random.Random(81)
        for turn in range(60):
            many = source.choice((3, 5, 8))
            house = some_house(source, many, 2)
            places = source.choice(subsets(many))
            row = gather(house, places)
            for each in (0, 1, 99):
                self.assertEqual(cheapest(house, (each, each), places), None if row is None else (each * len(row), row))
        for many in range(2, 9):
            self.assertEqual(cheapest(slow_house(many), (0, 0), tuple(range(many))), (0, slow_row(many)))

    def test_beside_all_rows(self):
        source = random.Random(82)
        told = []
        for turn in range(150):
            house = some_house(source, 3, source.choice((1, 2, 3)))
            costs = some_costs(source, house)
            for places in ((0, 1), (1, 2), (0, 1, 2)):
                # A row that is to be told comes to no standing twice: so six doors are enough.
                told.append(cheapest(house, costs, places))
                self.assertEqual(told[-1], slow_cheapest(house, costs, places, 6), (house, costs, places))
                self.assertEqual(told[-1], swept_cheapest(house, costs, places), (house, costs, places))
        self.assertGreater(told.count(None), 20)

    def test_beside_sweeps(self):
        source = random.Random(83)
        longer = 0
        for turn in range(150):
            many = source.choice((4, 5, 6))
            doors = [source.sample(range(many), many) for door in range(source.choice((2, 3)))]
            for change in range(3):
                source.choice(doors)[source.randrange(many)] = source.randrange(many)
            house = (many, tuple(map(tuple, doors)))
            costs = some_costs(source, house)
            places = source.choice(subsets(many))
            told = cheapest(house, costs, places)
            self.assertEqual(told, swept_cheapest(house, costs, places), (house, costs, places))
            if told is not None:
                self.assertEqual(slow_cost(costs, told[1]), told[0])
                longer += len(told[1]) > len(gather(house, places))
        self.assertGreater(longer, 8)


class TestChance(unittest.TestCase):
    def test_by_hand(self):
        self.assertEqual(chance(TWO, (0, 1), 0), (0, 1))
        self.assertEqual(chance(TWO, (0, 1), 1), (1, 2))
        self.assertEqual(chance(TWO, (0, 1), 2), (3, 4))
        self.assertEqual(chance(TWO, (0, 1), 12), (4095, 4096))
        self.assertEqual(chance(THREE, (0, 1, 2), 3), (0, 1))
        self.assertEqual(chance(THREE, (0, 1, 2), 4), (1, 16))
        self.assertEqual(chance(THREE, (0, 1, 2), 5), (1, 8))

    def test_none_and_all(self):
        self.assertEqual(chance(ONE, (0,), 0), (1, 1))
        for many in range(13):
            self.assertEqual(chance(ONE, (0,), many), (1, 1))
            self.assertEqual(chance(EIGHT, (5,), many), (1, 1))
            self.assertEqual(chance((2, ((0, 1), (1, 0), (0, 1))), (0, 1), many), (0, 1))
            self.assertEqual(chance((2, ((0, 0), (0, 0))), (0, 1), many), (1, 1) if many else (0, 1))

    def test_least_numbers(self):
        self.assertEqual(chance((2, ((0, 0), (1, 1))), (0, 1), 3), (1, 1))
        # Of 9 rows 5 gather; of 3 doors one does; of 27 rows 19.
        house = (2, ((0, 0), (0, 1), (1, 0)))
        self.assertEqual([chance(house, (0, 1), many) for many in range(4)], [(0, 1), (1, 3), (5, 9), (19, 27)])
        # Six of nine rows.
        self.assertEqual(chance((3, ((0, 0, 1), (0, 1, 2), (0, 0, 0))), (0, 1, 2), 2), (2, 3))

    def test_up_to_twelve_of_three_doors(self):
        house = (2, ((0, 0), (0, 1), (1, 0)))
        for many in range(13):
            self.assertEqual(chance(house, (0, 1), many), (3 ** many - 2 ** many, 3 ** many))

    def test_beside_all_rows(self):
        source = random.Random(84)
        for turn in range(80):
            many = source.choice((2, 3, 4, 6, 8))
            doors = source.choice((1, 2, 3))
            house = some_house(source, many, doors)
            places = source.choice(subsets(many))
            for row in range(0, (13, 8, 5)[doors - 1]):
                self.assertEqual(chance(house, places, row), slow_chance(house, places, row), (house, places, row))

    def test_twelve_beside_all_rows(self):
        for house in (THREE, (4, ((1, 2, 3, 0), (0, 0, 2, 3)))):
            for many in (9, 10, 11, 12):
                places = tuple(range(house[0]))
                self.assertEqual(chance(house, places, many), slow_chance(house, places, many))


class TestRefused(Refusing):
    def wrong_costs(self, doors):
        lengths = [(), (0,) * (doors - 1), (0,) * (doors + 1), (1,) * 8]
        out_of_range = [(100,) * doors, (0,) * (doors - 1) + (100,), (-1,) + (0,) * (doors - 1), (1000,) * doors]
        booleans = [(True,) * doors, (0,) * (doors - 1) + (False,), (True,) + (5,) * (doors - 1)]
        kinds = [
            0, 5, [0] * doors, "0" * doors, ("0",) * doors, (None,) * doors, ((0,) * doors,), range(doors),
            dict.fromkeys(range(doors), 1), (0,) * (doors - 1) + (None,), (0,) * (doors - 1) + ((0,),),
            (10 ** 5000,) * doors,
        ]
        right = [(1, 0), (1, 1)] if doors == 2 else []
        return [thing for thing in ODD if thing not in right] + lengths + out_of_range + booleans + kinds

    def wrong_numbers(self):
        return [each for each in ODD if each != 9] + [13, 14, 100, -2, (), (0,), [3], "3", {3: 3}, (12,)]

    def test_no_house(self):
        for number, house in enumerate(WRONG_HOUSES):
            with self.subTest(number):
                self.refused(NoHouse, cheapest, house, (0, 0), (0,))
                self.refused(NoHouse, chance, house, (0,), 3)

    def test_no_places(self):
        for house in (ONE, TWO, EIGHT):
            for number, places in enumerate(wrong_places(house[0])):
                with self.subTest(many=house[0], wrong=number):
                    self.refused(NoPlaces, cheapest, house, (1,) * len(house[1]), places)
                    self.refused(NoPlaces, chance, house, places, 3)

    def test_no_costs(self):
        for house in (ONE, TWO, EIGHT):
            for number, costs in enumerate(self.wrong_costs(len(house[1]))):
                with self.subTest(many=house[0], wrong=number):
                    self.refused(NoCosts, cheapest, house, costs, (0,))
                    self.refused(NoCosts, cheapest, house, costs, tuple(range(house[0])))

    def test_costs_of_nought_to_ninety_nine(self):
        house = (2, ((0, 0),))
        for each in range(100):
            self.assertEqual(cheapest(house, (each,), (0, 1)), (each, (0,)))

    def test_no_number(self):
        for house in (ONE, TWO, EIGHT):
            for number, many in enumerate(self.wrong_numbers()):
                with self.subTest(many=house[0], wrong=number):
                    self.refused(NoNumber, chance, house, (0,), many)

    def test_the_first_named(self):
        wrong_house = (2, ((0, 2),))
        for costs in ((0, 0), None, (0, 100)):
            for places in ((0,), None, (1, 0)):
                self.refused(NoHouse, cheapest, wrong_house, costs, places)
            # Places are named ahead of costs, though they are handed in behind them.
            self.refused(NoPlaces, cheapest, TWO, costs, (1, 0))
            self.refused(NoPlaces, cheapest, TWO, costs, None)
        for many in (3, 13, None):
            for places in ((0,), None, (1, 0)):
                self.refused(NoHouse, chance, wrong_house, places, many)
            self.refused(NoPlaces, chance, TWO, (1, 0), many)
            self.refused(NoPlaces, chance, TWO, None, many)

    def test_what_is_handed_in_is_as_before(self):
        lists = [[2, [[0, 1]]], [0, 1], [1, 0]]
        self.refused(NoHouse, cheapest, lists[0], (0, 1), (0,))
        self.refused(NoCosts, cheapest, TWO, lists[1], (0,))
        self.refused(NoPlaces, cheapest, TWO, (0, 1), lists[2])
        self.refused(NoHouse, chance, lists[0], (0,), 3)
        self.refused(NoPlaces, chance, TWO, lists[2], 3)
        self.refused(NoNumber, chance, TWO, (0,), lists[1])
        self.assertEqual(lists, [[2, [[0, 1]]], [0, 1], [1, 0]])


class TestInterface(unittest.TestCase):
    def test_arguments(self):
        wanted = {"cheapest": ["house", "costs", "places"], "chance": ["house", "places", "many"]}
        for name, arguments in wanted.items():
            self.assertEqual(list(inspect.signature(getattr(module, name)).parameters), arguments)

    def test_kinds(self):
        told = cheapest(THREE, (1, 2), (0, 1, 2))
        self.assertEqual([type(each) for each in (told,) + told], [tuple, int, tuple])
        told = chance(THREE, (0, 1, 2), 4)
        self.assertEqual([type(each) for each in (told,) + told], [tuple, int, int])


if __name__ == "__main__":
    unittest.main()
