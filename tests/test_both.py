import inspect
import itertools
import random
import unittest

from gatherall import both
from gatherall.both import both_bar, both_row, is_both_bar
from gatherall.houses import gather
from tests.things import ODD, levels, slow_house, slow_led, slow_row, some_house, subsets

STAY = (2, ((0, 1), (0, 1)))
FIRST = (2, ((0, 0), (0, 1)))
SECOND = (2, ((0, 1), (0, 0)))
DOWN = (3, ((0, 0, 1), (0, 1, 2)))
# All counters in both come to one room in each by no fewer than 23 doors.
LONG_ONE = (5, ((0, 1, 2, 3, 4), (2, 4, 1, 3, 0), (3, 1, 2, 0, 3)))
LONG_OTHER = (5, ((0, 1, 3, 4, 3), (4, 3, 2, 1, 0), (2, 3, 4, 1, 0)))
FIVE = (0, 1, 2, 3, 4)


def pair_behind(one, other, pair, door):
    return (slow_led(one, pair[0], (door,)), slow_led(other, pair[1], (door,)))


def is_one_in_each(pair):
    return len(pair[0]) == 1 and len(pair[1]) == 1


def slow_both_row(one, other, places, others, longest):
    for many in range(longest + 1):
        for row in itertools.product(range(len(one[1])), repeat=many):
            if is_one_in_each((slow_led(one, places, row), slow_led(other, others, row))):
                return row
    return None


def fewest_for_both(one, other, places, others):
    found = levels((places, others), len(one[1]), lambda pair, door: pair_behind(one, other, pair, door))
    for count, level in enumerate(found):
        if any(is_one_in_each(pair) for pair in level):
            return count
    return None


def bars(one, other, places, others, pairs):
    doors = range(len(one[1]))
    closed = all(pair_behind(one, other, pair, door) in pairs for pair in pairs for door in doors)
    return closed and (places, others) in pairs and not any(is_one_in_each(pair) for pair in pairs)


def small_pairs():
    """Two houses and standings in them: all of up to two rooms and one door, and some others."""
    doors = {many: list(itertools.product(range(many), repeat=many)) for many in (1, 2)}
    for one, other in itertools.product([(many, (door,)) for many in (1, 2) for door in doors[many]], repeat=2):
        for places, others in itertools.product(subsets(one[0]), subsets(other[0])):
            yield (one, other, places, others)
    chance = random.Random(41)
    for turn in range(250):
        number = chance.choice((1, 2, 2, 3))
        one = some_house(chance, chance.choice((1, 2, 3)), number)
        other = some_house(chance, chance.choice((1, 2, 3)), number)
        yield (one, other, chance.choice(subsets(one[0])), chance.choice(subsets(other[0])))


def large_pairs():
    chance = random.Random(42)
    for turn in range(60):
        number = chance.choice((1, 2, 3))
        pair = []
        for house in range(2):
            many = chance.choice((3, 4, 5))
            doors = [chance.sample(range(many), many) for door in range(number)]
            for change in range(chance.choice((0, 1, 2))):
                chance.choice(doors)[chance.randrange(many)] = chance.randrange(many)
            pair.append((many, tuple(map(tuple, doors))))
        yield (*pair, chance.choice(subsets(pair[0][0])), chance.choice(subsets(pair[1][0])))


class TestBothRow(unittest.TestCase):
    def test_by_hand(self):
        self.assertEqual(both_row(FIRST, SECOND, (0, 1), (0, 1)), (0, 1))
        self.assertEqual(both_row(SECOND, FIRST, (0, 1), (0, 1)), (0, 1))
        self.assertEqual(both_row(FIRST, SECOND, (0,), (0, 1)), (1,))
        self.assertEqual(both_row(FIRST, SECOND, (0, 1), (1,)), (0,))
        self.assertEqual(both_row(DOWN, SECOND, (0, 1, 2), (0, 1)), (0, 0, 1))
        self.assertEqual(both_row(SECOND, DOWN, (0, 1), (0, 1, 2)), (0, 0, 1))
        self.assertIsNone(both_row(STAY, FIRST, (0, 1), (0, 1)))
        self.assertIsNone(both_row(FIRST, STAY, (0, 1), (0, 1)))
        self.assertEqual(both_row(FIRST, STAY, (0, 1), (1,)), (0,))

    def test_no_doors_for_one_counter_in_each(self):
        self.assertEqual(both_row((1, ((0,),)), (1, ((0,),)), (0,), (0,)), ())
        self.assertEqual(both_row(LONG_ONE, LONG_OTHER, (4,), (2,)), ())

    def test_each_gathers_but_never_by_one_row(self):
        # Both doors of either keep apart what the other brings together.
        one = (4, ((2, 2, 2, 3), (0, 3, 2, 3)))
        other = (4, ((0, 3, 2, 3), (2, 2, 2, 3)))
        self.assertEqual(gather(one, (0, 1)), (0,))
        self.assertEqual(gather(other, (0, 1)), (1,))
        self.assertIsNone(both_row(one, other, (0, 1), (0, 1)))

    def test_those_that_met_stay_together(self):
        house = (5, ((1, 2, 3, 4, 0), (0, 1, 2, 3, 0)))
        self.assertEqual(house, slow_house(5))
        self.assertEqual(both_row(house, house, FIVE, FIVE), slow_row(5))

    def test_the_first_of_several(self):
        for one in (FIRST, SECOND):
            for other in (FIRST, SECOND):
                row = both_row(one, other, (0, 1), (0, 1))
                self.assertEqual(row, slow_both_row(one, other, (0, 1), (0, 1), 4))
        three = (2, ((0, 1), (1, 1), (0, 0)))
        self.assertEqual(both_row(three, three, (0, 1), (0, 1)), (1,))

    def test_many_doors(self):
        row = both_row(LONG_ONE, LONG_OTHER, FIVE, FIVE)
        self.assertEqual(len(row), 23)
        self.assertEqual(fewest_for_both(LONG_ONE, LONG_OTHER, FIVE, FIVE), 23)
        self.assertTrue(is_one_in_each((slow_led(LONG_ONE, FIVE, row), slow_led(LONG_OTHER, FIVE, row))))

    def test_beside_all_rows(self):
        for asked in small_pairs():
            row = both_row(*asked)
            count = fewest_for_both(*asked)
            self.assertEqual(None if row is None else len(row), count, asked)
            if row is not None:
                self.assertEqual(row, slow_both_row(*asked, count), asked)

    def test_beside_a_slow_search(self):
        found = []
        for one, other, places, others in large_pairs():
            row = both_row(one, other, places, others)
            found.append(row)
            self.assertEqual(None if row is None else len(row), fewest_for_both(one, other, places, others))
            if row is not None:
                self.assertTrue(is_one_in_each((slow_led(one, places, row), slow_led(other, others, row))))
                if len(row) <= 6:
                    self.assertEqual(row, slow_both_row(one, other, places, others, 6))
        self.assertGreater(found.count(None), 5)
        self.assertGreater(len(found) - found.count(None), 5)

    def test_the_houses_changed_about(self):
        for one, other, places, others in itertools.chain(small_pairs(), large_pairs()):
            self.assertEqual(both_row(one, other, places, others), both_row(other, one, others, places))


class TestBothBar(unittest.TestCase):
    def test_by_hand(self):
        self.assertIsNone(both_bar(FIRST, SECOND, (0, 1), (0, 1)))
        self.assertIsNone(both_bar(STAY, STAY, (0,), (1,)))
        self.assertIsNone(both_bar(LONG_ONE, LONG_OTHER, FIVE, FIVE))
        told = both_bar(STAY, FIRST, (0, 1), (0, 1))
        self.assertTrue(bars(STAY, FIRST, (0, 1), (0, 1), told))

    def test_there_are_such_just_if_there_is_no_row(self):
        for asked in itertools.chain(small_pairs(), large_pairs()):
            told = both_bar(*asked)
            self.assertEqual(told is None, fewest_for_both(*asked) is not None)
            if told is not None:
                self.assertIs(type(told), list)
                self.assertEqual(told, sorted(set(told)))
                self.assertTrue(bars(*asked, told), asked)
                self.assertIs(is_both_bar(*asked, told), True)

    def test_they_rise_as_pairs(self):
        house = (3, ((1, 2, 2), (0, 0, 1)))
        told = both_bar(house, (2, ((0, 1), (1, 0))), (1, 2), (0, 1))
        self.assertEqual(told, sorted(told))
        self.assertIn(((0,), (0, 1)), told)
        self.assertIn(((0, 1), (0, 1)), told)


class TestIsBothBar(unittest.TestCase):
    def test_by_hand(self):
        pairs = [((0,), (0, 1)), ((0, 1), (0, 1))]
        self.assertIs(is_both_bar(FIRST, STAY, (0, 1), (0, 1), pairs), True)
        self.assertIs(is_both_bar(FIRST, STAY, (0,), (0, 1), pairs), True)
        self.assertIs(is_both_bar(FIRST, STAY, (0, 1), (0, 1), pairs[::-1]), True)
        self.assertIs(is_both_bar(FIRST, STAY, (0, 1), (0, 1), pairs + pairs), True)
        self.assertIs(is_both_bar(FIRST, STAY, (0,), (0, 1), pairs[:1]), True)
        self.assertIs(is_both_bar(FIRST, STAY, (0, 1), (0, 1), pairs[:1]), False)
        self.assertIs(is_both_bar(FIRST, STAY, (0, 1), (0, 1), pairs[1:]), False)
        self.assertIs(is_both_bar(FIRST, STAY, (1,), (0, 1), pairs), False)
        self.assertIs(is_both_bar(STAY, FIRST, (0, 1), (0, 1), pairs), False)
        self.assertIs(is_both_bar(STAY, FIRST, (0, 1), (0, 1), [(pair[1], pair[0]) for pair in pairs]), True)

    def test_both_of_one_room_never_bar(self):
        self.assertIs(is_both_bar(STAY, STAY, (0,), (1,), [((0,), (1,))]), False)
        self.assertIs(is_both_bar(STAY, STAY, (0,), (0, 1), [((0,), (0, 1))]), True)
        self.assertIs(is_both_bar(STAY, STAY, (0,), (0, 1), [((0,), (0, 1)), ((0,), (1,))]), False)

    def test_beside_the_words(self):
        houses = [(STAY, FIRST), (SECOND, STAY), (FIRST, SECOND), ((2, ((1, 0),)), (2, ((0, 0),))), ((1, ((0,),)), DOWN)]
        for one, other in houses:
            if len(one[1]) != len(other[1]):
                one = (one[0], one[1] * len(other[1]))
            standings = list(itertools.product(subsets(one[0]), subsets(other[0])))
            for size in range(len(standings) + 1):
                for listed in itertools.combinations(standings, size):
                    for places, others in standings:
                        want = bars(one, other, places, others, listed)
                        self.assertIs(is_both_bar(one, other, places, others, list(listed)), want)

    def test_one_left_out_or_one_more(self):
        for asked in large_pairs():
            told = both_bar(*asked)
            if told is not None and len(told) <= 12:
                for place in range(len(told)):
                    fewer = told[:place] + told[place + 1:]
                    self.assertIs(is_both_bar(*asked, fewer), bars(*asked, fewer))
                for more in itertools.product(subsets(asked[0][0]), subsets(asked[1][0])):
                    self.assertIs(is_both_bar(*asked, told + [more]), bars(*asked, told + [more]))

    def test_what_are_none(self):
        one = (3, ((0, 1, 2),))
        other = (2, ((0, 1),))
        right = ((0, 2), (0, 1))
        self.assertIs(is_both_bar(one, other, (0, 2), (0, 1), [right]), True)
        wrong = [
            [], (), (right,), right, [right[0]], [right[0], right[1]], [[(0, 2), (0, 1)]], {right: True}, {right},
            [right, ()], [right, ((0, 2),)], [right, ((0, 2), (0, 1), (0, 1))], [((0, 2), [0, 1])], [([0, 2], (0, 1))],
            [((0, 2), (0, True))], [((False, 2), (0, 1))], [((0, 2), (False, True))], [right, ((True,), (0, 1))],
            [right, ((2, 0), (0, 1))], [right, ((0, 0), (0, 1))], [right, ((0, 3), (0, 1))], [right, ((0, 1), (0, 2))],
            [right, ((0, 1), ())], [right, ((), (0, 1))], [right, ((-1, 0), (0, 1))], [right, ((0, 1), (1, 0))],
            [right, None], [right, 1], [right, "01"], [right, "0"], [right, (None, (0, 1))], [right, ((0, 1), None)],
            [right, ((0, 1), "01")], [right, {0: 1}], [right, ((0,), (1,))], [right, ((0, "1"), (0, 1))],
            [right, ((0, 10 ** 5000), (0, 1))], [right, (0, 1)], [right, (0, 2, 3, 4)], [(0, 2, 3, 4)],
            [((0, 1), (0, 1))], [((0, 2), (0,))], [((0,), (0, 1))], [right, (((0,), 1), (0, 1))], [((0, 1), (0, 2))],
            [right, ({0: 1, 1: 1}, (0, 1))], [right, (range(2), (0, 1))], [right, ({0}, (0, 1))],
        ]
        itself = [right]
        itself.append(itself)
        for place, thing in enumerate(ODD + wrong + [itself]):
            with self.subTest(place):
                self.assertIs(is_both_bar(one, other, (0, 2), (0, 1), thing), False)


class TestInterface(unittest.TestCase):
    def test_arguments(self):
        four = ["one", "other", "places", "others"]
        wanted = {"both_row": four, "both_bar": four, "is_both_bar": four + ["thing"]}
        for name, arguments in wanted.items():
            self.assertEqual(list(inspect.signature(getattr(both, name)).parameters), arguments)

    def test_kinds(self):
        told = both_bar(STAY, FIRST, (0, 1), (0, 1))
        kinds = [type(each) for each in (told, told[0], told[0][0], told[0][1], told[0][0][0], told[0][1][0])]
        self.assertEqual(kinds, [list, tuple, tuple, tuple, int, int])
        self.assertIs(type(both_row(FIRST, SECOND, (0, 1), (0, 1))), tuple)


class TestNothingKept(unittest.TestCase):
    def test_a_list_that_is_changed_changes_nothing(self):
        before = list(both_bar(STAY, FIRST, (0, 1), (0, 1)))
        both_bar(STAY, FIRST, (0, 1), (0, 1)).clear()
        self.assertEqual(both_bar(STAY, FIRST, (0, 1), (0, 1)), before)

    def test_what_is_handed_in_is_as_before(self):
        thing = [((0, 1), (0, 1)), ((0, 1), (0,)), ((0, 1), (0, 1))]
        self.assertTrue(is_both_bar(STAY, FIRST, (0, 1), (0, 1), thing))
        self.assertEqual(thing, [((0, 1), (0, 1)), ((0, 1), (0,)), ((0, 1), (0, 1))])
        thing.pop(1)
        self.assertFalse(is_both_bar(STAY, FIRST, (0, 1), (0, 1), thing))
        wrong = [[(0, 1), (0, 1)], {0: 1}]
        self.assertFalse(is_both_bar(STAY, FIRST, (0, 1), (0, 1), wrong))
        self.assertEqual(wrong, [[(0, 1), (0, 1)], {0: 1}])

    def test_equal_things_give_equal_answers(self):
        same = (5, tuple(tuple(list(door)) for door in LONG_ONE[1]))
        for ask in (both_row, both_bar):
            for places in (FIVE, (0, 1)):
                self.assertEqual(ask(same, LONG_OTHER, places, FIVE), ask(LONG_ONE, LONG_OTHER, tuple(places), FIVE))


if __name__ == "__main__":
    unittest.main()
