import inspect
import itertools
import random
import unittest

from gatherall import houses
from gatherall.houses import (
    bar_of, fewest, gather, gather_at, is_bar_of, joined, led, pairs_apart, reached, sorted_out,
)
from tests.things import (
    ODD, fewest_doors, slow_first, slow_house, slow_led, slow_reached, slow_row, some_house, subsets,
)

ROUND = (8, ((1, 2, 3, 4, 5, 6, 7, 0),))
DOWN = (4, ((0, 0, 1, 2),))
SWAPS = (4, ((1, 0, 2, 3), (0, 1, 3, 2), (0, 0, 2, 3)))
# Some counters come to room 1 by no fewer than 75 doors.
FAR = (8, ((5, 2, 0, 2, 4, 5, 7, 5), (5, 1, 2, 0, 6, 5, 4, 7), (6, 4, 0, 1, 3, 5, 7, 2)))
FAR_PLACES = (0, 1, 3, 4, 7)


def is_one(standing):
    return len(standing) == 1


def small_houses():
    for many in (1, 2):
        doors = list(itertools.product(range(many), repeat=many))
        for number in (1, 2, 3):
            for chosen in itertools.product(doors, repeat=number):
                yield (many, chosen)
    chance = random.Random(7)
    for turn in range(60):
        yield some_house(chance, 3, chance.choice((1, 2, 3)))


def large_houses():
    chance = random.Random(8)
    for turn in range(40):
        many = chance.choice((4, 5, 6, 7, 8))
        house = some_house(chance, many, chance.choice((1, 2, 3)))
        yield (house, tuple(sorted(chance.sample(range(many), chance.randrange(1, many + 1)))))
    for turn in range(40):
        many = chance.choice((4, 6, 8))
        doors = [list(range(many)) for door in range(chance.choice((1, 2, 3)))]
        for door in doors:
            chance.shuffle(door)
        doors[-1][chance.randrange(many)] = chance.randrange(many)
        places = tuple(sorted(chance.sample(range(many), chance.randrange(1, many + 1))))
        yield ((many, tuple(tuple(door) for door in doors)), places)


class TestLed(unittest.TestCase):
    def test_by_hand(self):
        self.assertEqual(led(DOWN, (1, 2, 3), ()), (1, 2, 3))
        self.assertEqual(led(DOWN, (1, 2, 3), (0,)), (0, 1, 2))
        self.assertEqual(led(DOWN, (1, 2, 3), (0, 0)), (0, 1))
        self.assertEqual(led(DOWN, (1, 2, 3), (0, 0, 0)), (0,))
        self.assertEqual(led(SWAPS, (1, 2), (0, 1, 2)), (0, 3))
        self.assertEqual(led(SWAPS, (1, 2), (1, 2, 0)), (1, 3))
        self.assertEqual(led((1, ((0,),)), (0,), (0, 0)), (0,))

    def test_rows_of_no_doors_and_of_sixty(self):
        self.assertEqual(led(ROUND, (0, 3), ()), (0, 3))
        self.assertEqual(led(ROUND, (0, 3), (0,) * 60), (4, 7))
        self.assertEqual(led(ROUND, (0, 5), (0,) * 59), (0, 3))

    def test_beside_slow_going(self):
        chance = random.Random(9)
        for house, places in large_houses():
            row = tuple(chance.randrange(len(house[1])) for door in range(chance.randrange(61)))
            self.assertEqual(led(house, places, row), slow_led(house, places, row))


class TestReached(unittest.TestCase):
    def test_by_hand(self):
        self.assertEqual(reached(DOWN, (1, 2, 3)), [(0,), (0, 1), (0, 1, 2), (1, 2, 3)])
        self.assertEqual(reached(DOWN, (3,)), [(0,), (1,), (2,), (3,)])
        self.assertEqual(reached((1, ((0,),)), (0,)), [(0,)])
        self.assertEqual(reached(SWAPS, (1, 2)), [(0, 2), (0, 3), (1, 2), (1, 3)])
        self.assertEqual(reached(ROUND, tuple(range(8))), [tuple(range(8))])
        self.assertEqual(len(reached(ROUND, (0, 1))), 8)

    def test_beside_a_slow_search(self):
        for house in small_houses():
            for places in subsets(house[0]):
                self.assertEqual(reached(house, places), slow_reached(house, places))
        for house, places in large_houses():
            self.assertEqual(reached(house, places), slow_reached(house, places))

    def test_also_what_only_long_rows_lead_to(self):
        self.assertEqual(reached(FAR, FAR_PLACES), slow_reached(FAR, FAR_PLACES))
        self.assertIn((1,), reached(FAR, FAR_PLACES))


class TestGather(unittest.TestCase):
    def test_by_hand(self):
        self.assertEqual(gather(DOWN, (0, 1, 2, 3)), (0, 0, 0))
        self.assertEqual(gather(DOWN, (0, 1)), (0,))
        self.assertEqual(gather(SWAPS, (0, 1)), (2,))
        self.assertIsNone(gather(SWAPS, (0, 2)))
        self.assertIsNone(gather(ROUND, (0, 4)))

    def test_one_counter_needs_no_door(self):
        self.assertEqual(gather((1, ((0,),)), (0,)), ())
        self.assertEqual(gather(ROUND, (5,)), ())

    def test_the_first_of_several(self):
        self.assertEqual(gather((2, ((0, 1), (1, 1), (0, 0))), (0, 1)), (1,))
        self.assertEqual(gather((2, ((1, 0), (0, 0), (0, 0))), (0, 1)), (1,))
        self.assertEqual(gather((3, ((0, 0, 1), (1, 1, 2), (0, 0, 0))), (0, 1)), (0,))
        self.assertEqual(gather((3, ((1, 2, 0), (0, 0, 1), (0, 0, 1))), (0, 1, 2)), (1, 1))
        # The row counts, not the room that it ends at.
        self.assertEqual(gather((3, ((2, 2, 2), (0, 0, 0))), (0, 1)), (0,))

    def test_as_many_doors_as_can_be_needed(self):
        for many in range(2, 9):
            row = gather(slow_house(many), tuple(range(many)))
            self.assertEqual(len(row), (many - 1) * (many - 1))
            self.assertEqual(row, slow_row(many))

    def test_beside_all_rows(self):
        for house in small_houses():
            for places in subsets(house[0]):
                self.assertEqual(gather(house, places), slow_first(house, places, is_one, 6), (house, places))

    def test_beside_a_slow_search(self):
        for house, places in large_houses():
            row = gather(house, places)
            self.assertEqual(None if row is None else len(row), fewest_doors(house, places, is_one))
            self.assertTrue(row is None or is_one(slow_led(house, places, row)))
            if row is not None and len(row) <= 6:
                self.assertEqual(row, slow_first(house, places, is_one, 6))

    def test_all_rooms_gather_just_if_each_two_do(self):
        for house in small_houses():
            self.assertEqual(gather(house, tuple(range(house[0]))) is None, pairs_apart(house) != [])
        for house, places in large_houses():
            self.assertEqual(gather(house, tuple(range(house[0]))) is None, pairs_apart(house) != [])

    def test_three_may_not_gather_though_each_two_can(self):
        house = (4, ((3, 2, 2, 3), (1, 3, 2, 3)))
        pairs = [gather(house, (0, 1)), gather(house, (0, 2)), gather(house, (1, 2))]
        self.assertEqual(pairs, [(1, 1), (1, 0), (0,)])
        self.assertIsNone(gather(house, (0, 1, 2)))


class TestGatherAt(unittest.TestCase):
    def test_by_hand(self):
        self.assertEqual(gather_at(DOWN, (2, 3), 0), (0, 0, 0))
        self.assertIsNone(gather_at(DOWN, (2, 3), 1))
        self.assertEqual(gather_at(SWAPS, (0, 1), 0), (2,))
        self.assertEqual(gather_at(SWAPS, (0, 1), 1), (2, 0))
        self.assertIsNone(gather_at(SWAPS, (0, 1), 3))
        self.assertEqual(gather_at(ROUND, (5,), 5), ())
        self.assertEqual(gather_at(ROUND, (5,), 4), (0,) * 7)
        self.assertEqual(gather_at((1, ((0,),)), (0,), 0), ())

    def test_a_shortest_row_of_more_than_sixty(self):
        row = gather_at(FAR, FAR_PLACES, 1)
        self.assertEqual(len(row), 75)
        self.assertEqual(fewest_doors(FAR, FAR_PLACES, lambda standing: standing == (1,)), 75)
        self.assertEqual(slow_led(FAR, FAR_PLACES, row), (1,))

    def test_beside_all_rows(self):
        for house in small_houses():
            for places in subsets(house[0]):
                for room in range(house[0]):
                    want = slow_first(house, places, lambda standing: standing == (room,), 6)
                    self.assertEqual(gather_at(house, places, room), want)

    def test_beside_a_slow_search(self):
        for house, places in large_houses():
            for room in range(house[0]):
                row = gather_at(house, places, room)
                want = fewest_doors(house, places, lambda standing: standing == (room,))
                self.assertEqual(None if row is None else len(row), want)
                self.assertTrue(row is None or slow_led(house, places, row) == (room,))


class TestFewest(unittest.TestCase):
    def test_by_hand(self):
        self.assertEqual(fewest(DOWN, (0, 1, 2, 3)), (1, (0, 0, 0)))
        self.assertEqual(fewest(SWAPS, (0, 1, 2, 3)), (3, (2,)))
        self.assertEqual(fewest(SWAPS, (0, 2)), (2, ()))
        self.assertEqual(fewest(ROUND, tuple(range(8))), (8, ()))
        self.assertEqual(fewest((1, ((0,),)), (0,)), (1, ()))

    def test_fewer_rooms_count_more_than_fewer_doors(self):
        # Door 0 leads to two rooms at once, but farther from one.
        self.assertEqual(fewest((4, ((0, 0, 3, 3), (0, 0, 1, 2))), (0, 1, 2, 3)), (1, (1, 1, 0)))

    def test_beside_all_rows(self):
        for house in small_houses():
            for places in subsets(house[0]):
                many = min(len(standing) for standing in slow_reached(house, places))
                row = slow_first(house, places, lambda standing: len(standing) == many, 6)
                self.assertEqual(fewest(house, places), (many, row))

    def test_beside_a_slow_search(self):
        for house, places in large_houses():
            many = min(len(standing) for standing in slow_reached(house, places))
            told = fewest(house, places)
            self.assertEqual(told[0], many)
            self.assertEqual(len(told[1]), fewest_doors(house, places, lambda standing: len(standing) == many))
            self.assertEqual(len(slow_led(house, places, told[1])), many)


def bars(house, places, standings):
    closed = all(slow_led(house, each, (door,)) in standings for each in standings for door in range(len(house[1])))
    return closed and places in standings and min(map(len, standings)) > 1


class TestBarOf(unittest.TestCase):
    def test_none_where_it_gathers(self):
        self.assertIsNone(bar_of(DOWN, (0, 1, 2, 3)))
        self.assertIsNone(bar_of((1, ((0,),)), (0,)))
        self.assertIsNone(bar_of(ROUND, (7,)))
        self.assertIsNone(bar_of(slow_house(8), tuple(range(8))))

    def test_there_are_such_just_if_it_can_not(self):
        asked = [(house, places) for house in small_houses() for places in subsets(house[0])]
        for house, places in asked + list(large_houses()):
            told = bar_of(house, places)
            self.assertEqual(told is None, gather(house, places) is not None)
            if told is not None:
                self.assertIs(type(told), list)
                self.assertTrue(bars(house, places, told))
                self.assertEqual(told, sorted(set(told)))
                self.assertIs(is_bar_of(house, places, told), True)

    def test_by_hand(self):
        self.assertTrue(bars(SWAPS, (0, 2), bar_of(SWAPS, (0, 2))))
        self.assertTrue(bars(ROUND, (0, 4), bar_of(ROUND, (0, 4))))


class TestIsBarOf(unittest.TestCase):
    def test_by_hand(self):
        pairs = [(0, 2), (0, 3), (1, 2), (1, 3)]
        self.assertIs(is_bar_of(SWAPS, (1, 2), pairs), True)
        self.assertIs(is_bar_of(SWAPS, (1, 2), pairs[::-1]), True)
        self.assertIs(is_bar_of(SWAPS, (1, 2), pairs + pairs), True)
        self.assertIs(is_bar_of(SWAPS, (1, 2), pairs + [(2, 3)]), True)
        self.assertIs(is_bar_of(SWAPS, (2, 3), pairs), False)
        self.assertIs(is_bar_of(SWAPS, (2, 3), pairs + [(2, 3)]), True)
        self.assertIs(is_bar_of(SWAPS, (1, 2), pairs[1:]), False)
        self.assertIs(is_bar_of(SWAPS, (1, 2), pairs[:3]), False)
        self.assertIs(is_bar_of(SWAPS, (1, 2), pairs + [(0, 1)]), False)
        self.assertIs(is_bar_of(SWAPS, (1, 2), pairs + [(0, 1), (0,), (1,)]), False)

    def test_each_door_counts(self):
        for doors in itertools.permutations(SWAPS[1]):
            for left_out in range(4):
                pairs = [(0, 2), (0, 3), (1, 2), (1, 3)]
                pairs.pop(left_out)
                self.assertIs(is_bar_of((4, doors), pairs[0], pairs), False)

    def test_a_single_room_never_bars(self):
        self.assertIs(is_bar_of((2, ((0, 1),)), (0,), [(0,)]), False)
        self.assertIs(is_bar_of((2, ((0, 1),)), (0,), [(0, 1)]), False)
        self.assertIs(is_bar_of((2, ((0, 1),)), (0, 1), [(0,), (0, 1)]), False)
        self.assertIs(is_bar_of((2, ((0, 1),)), (0, 1), [(0, 1)]), True)

    def test_what_are_none(self):
        house = (3, ((0, 1, 2),))
        self.assertIs(is_bar_of(house, (0, 1), [(0, 1)]), True)
        wrong = [
            (), ((0, 1),), [()], [(0, 1), ()], [[0, 1]], [(0, 1), [0, 2]], [(1, 0)], [(0, 1), (2, 0)], [(0, 0)],
            [(0, 1), (1, 1)], [(0, 1), (1, 3)], [(0, 1), (-1, 0)], [(0, True)], [(False, 1)], [(False, True)],
            [(0, 1), (True, 2)], [(0, 1), None], [(0, 1), 1], [(0, 1), "01"], ["01"], [None], [(0, 1), (0, "1")],
            [(0, 1), (0, None)], [(0, 1), ((0,), 1)], {(0, 1): True}, {(0, 1)}, {0: (0, 1)}, [(0, 1), {0: 1}],
            [(0, 1), (0, 10 ** 5000)], [0, 1], (0, 1), [(0, 1, 1)], [(0, 2)], [(0, 1), (0,)],
        ]
        itself = [(0, 1)]
        itself.append(itself)
        for place, thing in enumerate([each for each in ODD if each != [(0, 1)]] + wrong + [itself]):
            with self.subTest(place):
                self.assertIs(is_bar_of(house, (0, 1), thing), False)

    def test_beside_the_words(self):
        for house in [(3, ((1, 2, 0),)), (3, ((1, 0, 2), (0, 2, 1))), (3, ((0, 1, 1), (0, 2, 1)))]:
            standings = subsets(3)
            for size in range(1, len(standings) + 1):
                for listed in itertools.combinations(standings, size):
                    for places in standings:
                        self.assertIs(is_bar_of(house, places, list(listed)), bars(house, places, listed))


class TestPairsApart(unittest.TestCase):
    def test_by_hand(self):
        self.assertEqual(pairs_apart((1, ((0,),))), [])
        self.assertEqual(pairs_apart((2, ((0, 1),))), [(0, 1)])
        self.assertEqual(pairs_apart((2, ((0, 1), (0, 0)))), [])
        self.assertEqual(pairs_apart(DOWN), [])
        self.assertEqual(pairs_apart(SWAPS), [(0, 2), (0, 3), (1, 2), (1, 3), (2, 3)])
        self.assertEqual(pairs_apart(ROUND), list(itertools.combinations(range(8), 2)))
        self.assertEqual(pairs_apart(slow_house(8)), [])

    def test_beside_a_slow_search(self):
        for house in list(small_houses()) + [house for house, places in large_houses()]:
            pairs = itertools.combinations(range(house[0]), 2)
            want = [pair for pair in pairs if fewest_doors(house, pair, is_one) is None]
            self.assertEqual(pairs_apart(house), want)


class TestSortedOut(unittest.TestCase):
    def test_by_hand(self):
        self.assertEqual(sorted_out((1, ((0,),))), [(1, 1)])
        self.assertEqual(sorted_out((2, ((0, 1),))), [(2, 2), (1, 0)])
        self.assertEqual(sorted_out((2, ((0, 1), (1, 1)))), [(2, 2), (1, 1)])
        self.assertEqual(sorted_out(DOWN), [(4, 4), (6, 6), (4, 4), (1, 1)])
        self.assertEqual(sorted_out(SWAPS), [(4, 4), (6, 1), (4, 0), (1, 0)])
        eight = [8, 28, 56, 70, 56, 28, 8, 1]
        self.assertEqual(sorted_out(ROUND), [(8, 8)] + [(many, 0) for many in eight[1:]])
        self.assertEqual(sorted_out(slow_house(8)), [(many, many) for many in eight])

    def test_beside_a_slow_search(self):
        for house in list(small_houses()) + [house for house, places in large_houses() if house[0] < 7]:
            want = []
            for many in range(1, house[0] + 1):
                standings = list(itertools.combinations(range(house[0]), many))
                able = [each for each in standings if fewest_doors(house, each, is_one) is not None]
                want.append((len(standings), len(able)))
            self.assertEqual(sorted_out(house), want)


class TestJoined(unittest.TestCase):
    def test_by_hand(self):
        self.assertEqual(joined(DOWN, ()), (4, ((0, 0, 1, 2), (0, 1, 2, 3))))
        self.assertEqual(joined(DOWN, (0, 0)), (4, ((0, 0, 1, 2), (0, 0, 0, 1))))
        self.assertEqual(joined((3, ((1, 2, 0), (0, 0, 2))), (0, 1)), (3, ((1, 2, 0), (0, 0, 2), (0, 2, 0))))
        self.assertEqual(joined((3, ((1, 2, 0), (0, 0, 2))), (1, 0)), (3, ((1, 2, 0), (0, 0, 2), (1, 1, 0))))
        self.assertEqual(joined((1, ((0,),)), (0,)), (1, ((0,), (0,))))
        self.assertEqual(joined(ROUND, (0,) * 60)[1][1], (4, 5, 6, 7, 0, 1, 2, 3))

    def test_the_new_door_leads_as_the_row_does(self):
        chance = random.Random(11)
        for house, places in large_houses():
            if len(house[1]) == 3:
                continue
            row = tuple(chance.randrange(len(house[1])) for door in range(chance.choice((0, 1, 5, 60))))
            new = joined(house, row)
            self.assertEqual((new[0], new[1][:-1]), house)
            self.assertEqual(led(new, places, (len(house[1]),)), slow_led(house, places, row))


class TestInterface(unittest.TestCase):
    def test_arguments(self):
        wanted = {
            "led": ["house", "places", "row"], "reached": ["house", "places"], "gather": ["house", "places"],
            "fewest": ["house", "places"], "bar_of": ["house", "places"], "gather_at": ["house", "places", "room"],
            "is_bar_of": ["house", "places", "thing"], "pairs_apart": ["house"], "sorted_out": ["house"],
            "joined": ["house", "row"],
        }
        for name, arguments in wanted.items():
            self.assertEqual(list(inspect.signature(getattr(houses, name)).parameters), arguments)

    def test_kinds(self):
        told = [
            led(SWAPS, (0, 1), (2,)), gather(SWAPS, (0, 1)), gather_at(SWAPS, (0, 1), 0), fewest(SWAPS, (0, 1)),
            joined(DOWN, (0,)), joined(DOWN, (0,))[1], joined(DOWN, (0,))[1][1], reached(DOWN, (1,))[0],
            pairs_apart(SWAPS)[0], sorted_out(SWAPS)[0], bar_of(SWAPS, (0, 2))[0], fewest(SWAPS, (0, 1))[1],
        ]
        self.assertEqual({type(each) for each in told}, {tuple})
        lists = [reached(DOWN, (1,)), pairs_apart(SWAPS), sorted_out(SWAPS), bar_of(SWAPS, (0, 2))]
        self.assertEqual({type(each) for each in lists}, {list})


class TestNothingKept(unittest.TestCase):
    def test_a_list_that_is_changed_changes_nothing(self):
        asked = [
            lambda: reached(SWAPS, (0, 2)), lambda: bar_of(SWAPS, (0, 2)), lambda: pairs_apart(SWAPS),
            lambda: sorted_out(SWAPS),
        ]
        before = [list(ask()) for ask in asked]
        for ask in asked:
            ask().clear()
            ask().append(None)
        self.assertEqual([ask() for ask in asked], before)

    def test_what_is_handed_in_is_as_before(self):
        thing = [(1, 3), (0, 2), (1, 2), (0, 3), (0, 2)]
        self.assertTrue(is_bar_of(SWAPS, (1, 2), thing))
        self.assertEqual(thing, [(1, 3), (0, 2), (1, 2), (0, 3), (0, 2)])
        thing.pop(0)
        self.assertFalse(is_bar_of(SWAPS, (1, 2), thing))
        wrong = [[1, 2], {0: 3}]
        self.assertFalse(is_bar_of(SWAPS, (1, 2), wrong))
        self.assertEqual(wrong, [[1, 2], {0: 3}])

    def test_equal_things_give_equal_answers(self):
        same = (4, tuple(tuple(list(door)) for door in SWAPS[1]))
        for ask in (reached, gather, fewest, bar_of):
            self.assertEqual(ask(same, tuple([0, 2])), ask(SWAPS, (0, 2)))


if __name__ == "__main__":
    unittest.main()
