import inspect
import itertools
import random
import unittest

from gatherall import resting as module
from gatherall.errors import NoPlaces, NoWeb
from gatherall.resting import middle, rest_rounds
from gatherall.webs import rounds
from tests.things import (
    WRONG_WEBS, Refusing, all_webs, neighbours, path, ring, slow_moves, some_web, subsets, wrong_places,
)

ONE = (1, ())
APART = (4, ((0, 1), (2, 3)))
STAR = (8, ((0, 3), (1, 3), (2, 3), (3, 4), (3, 5), (3, 6), (3, 7)))


def all_go_or_stay(web, state):
    return itertools.product(*[neighbours(web, place) + [place] for place in state])


def slow_far(web, start):
    """How far each place is from one, by rounds of growing; left out is where one can not come to."""
    far = {start: 0}
    for step in range(1, web[0]):
        for place in [each for each in far if far[each] == step - 1]:
            for other in neighbours(web, place):
                far.setdefault(other, step)
    return far


def slow_middle(web):
    far = [slow_far(web, place) for place in range(web[0])]
    if any(len(each) < web[0] for each in far):
        return []
    farthest = [max(each.values()) for each in far]
    return [place for place in range(web[0]) if farthest[place] == min(farthest)]


class TestRestRounds(unittest.TestCase):
    def test_by_hand(self):
        self.assertEqual(rest_rounds(path(5), (0, 4)), (2, 2))
        self.assertEqual(rest_rounds(path(5), (0, 1)), (1, 0))
        self.assertEqual(rest_rounds(path(5), (0, 1, 4)), (2, 2))
        self.assertEqual(rest_rounds(path(5), (0, 3)), (2, 1))
        self.assertEqual(rest_rounds(path(8), (0, 7)), (4, 3))
        self.assertEqual(rest_rounds(ring(5), (0, 1)), (1, 0))
        self.assertEqual(rest_rounds(ring(8), tuple(range(8))), (4, 0))
        self.assertEqual(rest_rounds(STAR, (0, 7)), (1, 3))
        self.assertEqual(rest_rounds(STAR, (3, 7)), (1, 3))

    def test_one_counter(self):
        self.assertEqual(rest_rounds(ONE, (0,)), (0, 0))
        self.assertEqual(rest_rounds(path(4), (2,)), (0, 2))
        self.assertEqual(rest_rounds((8, ()), (7,)), (0, 7))

    def test_they_gather_where_they_could_not_without_rests(self):
        self.assertIsNone(rounds(path(2), (0, 1)))
        self.assertEqual(rest_rounds(path(2), (0, 1)), (1, 0))
        self.assertIsNone(rounds(ring(6), (0, 1, 2)))
        self.assertEqual(rest_rounds(ring(6), (0, 1, 2)), (1, 1))

    def test_none(self):
        self.assertIsNone(rest_rounds(APART, (0, 2)))
        self.assertIsNone(rest_rounds(APART, (0, 1, 3)))
        self.assertEqual(rest_rounds(APART, (2, 3)), (1, 2))
        self.assertIsNone(rest_rounds((2, ()), (0, 1)))

    def test_the_least_place(self):
        self.assertEqual(rest_rounds((4, ((0, 2), (0, 3), (1, 2), (1, 3))), (2, 3)), (1, 0))
        self.assertEqual(rest_rounds((4, ((0, 2), (0, 3), (1, 2), (1, 3))), (0, 1)), (1, 2))
        self.assertEqual(rest_rounds(ring(4), (1, 3)), (1, 0))

    def test_beside_all_ways_in_small_webs(self):
        for many in (1, 2, 3, 4):
            for web in all_webs(many):
                for places in subsets(many):
                    want = slow_moves(web, places, all_go_or_stay)
                    self.assertEqual(rest_rounds(web, places), want, (web, places))

    def test_beside_all_ways_in_larger_webs(self):
        chance = random.Random(91)
        told = []
        for turn in range(120):
            many = chance.choice((5, 6, 7, 8))
            web = some_web(chance, many, chance.choice((0.2, 0.3, 0.5)))
            places = chance.choice([each for each in subsets(many) if len(each) <= 3])
            told.append(rest_rounds(web, places))
            self.assertEqual(told[-1], slow_moves(web, places, all_go_or_stay), (web, places))
        self.assertGreater(told.count(None), 10)

    def test_never_more_than_without_rests(self):
        chance = random.Random(92)
        for turn in range(100):
            web = some_web(chance, 7, 0.4)
            places = chance.choice(subsets(7))
            without = rounds(web, places)
            if without is not None:
                self.assertLessEqual(rest_rounds(web, places)[0], without[0])


class TestMiddle(unittest.TestCase):
    def test_by_hand(self):
        self.assertEqual(middle(ONE), [0])
        self.assertEqual(middle(path(2)), [0, 1])
        self.assertEqual(middle(path(3)), [1])
        self.assertEqual(middle(path(4)), [1, 2])
        self.assertEqual(middle(path(7)), [3])
        self.assertEqual(middle(path(8)), [3, 4])
        self.assertEqual(middle(ring(8)), [0, 1, 2, 3, 4, 5, 6, 7])
        self.assertEqual(middle(STAR), [3])
        self.assertEqual(middle((5, ((0, 4), (1, 4), (2, 3), (3, 4)))), [3, 4])

    def test_none_where_not_all_can_be_come_to(self):
        self.assertEqual(middle((2, ())), [])
        self.assertEqual(middle((8, ())), [])
        self.assertEqual(middle(APART), [])
        self.assertEqual(middle((4, ((0, 1), (0, 2), (1, 2)))), [])
        self.assertEqual(middle((4, ((1, 2), (1, 3), (2, 3)))), [])

    def test_beside_all_ways(self):
        for many in (1, 2, 3, 4, 5):
            for web in all_webs(many):
                self.assertEqual(middle(web), slow_middle(web), web)

    def test_beside_all_ways_in_larger_webs(self):
        chance = random.Random(93)
        told = []
        for turn in range(300):
            web = some_web(chance, chance.choice((6, 7, 8)), chance.choice((0.2, 0.3, 0.5)))
            told.append(middle(web))
            self.assertEqual(told[-1], slow_middle(web), web)
        self.assertGreater(told.count([]), 20)

    def test_counters_everywhere_gather_in_the_middle(self):
        for web in all_webs(4):
            told = rest_rounds(web, (0, 1, 2, 3))
            self.assertEqual(told is None, middle(web) == [])
            if told is not None:
                self.assertEqual(told[1], middle(web)[0])


class TestRefused(Refusing):
    def test_no_web(self):
        for number, web in enumerate(WRONG_WEBS):
            with self.subTest(number):
                self.refused(NoWeb, rest_rounds, web, (0,))
                self.refused(NoWeb, rest_rounds, web, None)
                self.refused(NoWeb, middle, web)

    def test_no_places(self):
        for web in (ONE, path(2), path(3), STAR):
            for number, places in enumerate(wrong_places(web[0])):
                with self.subTest(many=web[0], wrong=number):
                    self.refused(NoPlaces, rest_rounds, web, places)

    def test_what_is_handed_in_is_as_before(self):
        lists = [[2, [[0, 1]]], [1, 0]]
        self.refused(NoWeb, rest_rounds, lists[0], (0,))
        self.refused(NoWeb, middle, lists[0])
        self.refused(NoPlaces, rest_rounds, path(2), lists[1])
        self.assertEqual(lists, [[2, [[0, 1]]], [1, 0]])


class TestInterface(unittest.TestCase):
    def test_arguments(self):
        wanted = {"rest_rounds": ["web", "places"], "middle": ["web"]}
        for name, arguments in wanted.items():
            self.assertEqual(list(inspect.signature(getattr(module, name)).parameters), arguments)

    def test_kinds(self):
        told = rest_rounds(path(4), (0, 3))
        self.assertEqual([type(each) for each in (told,) + told], [tuple, int, int])
        self.assertEqual([type(middle(web)) for web in (ONE, path(4), APART)], [list] * 3)
        self.assertIs(type(middle(ONE)[0]), int)

    def test_a_list_that_is_changed_changes_nothing(self):
        for web in (ONE, path(4), APART):
            before = middle(web)
            middle(web).append(9)
            self.assertEqual(middle(web), before)


if __name__ == "__main__":
    unittest.main()
