import inspect
import random
import unittest

from gatherall import games
from gatherall.errors import NoHouse, NoPlaces, NoRow, Nothing
from gatherall.games import Game
from tests.things import (
    ODD, WRONG_HOUSES, Refusing, fewest_doors, slow_house, slow_led, slow_row, some_house, subsets, wrong_places,
)

ONE = (1, ((0,),))
TWO = (2, ((0, 1), (1, 1)))
THREE = (3, ((1, 2, 0), (0, 1, 0)))
SWAPS = (4, ((1, 0, 2, 3), (0, 1, 3, 2), (0, 0, 2, 3)))
ROUND = (8, ((1, 2, 3, 4, 5, 6, 7, 0),))


def all_told(game):
    return (game.places(), game.row(), game.left(), game.best())


def is_one(standing):
    return len(standing) == 1


def slow_told(house, places, row):
    """What a game tells behind a row, found without any game."""
    now = slow_led(house, places, row)
    left = fewest_doors(house, now, is_one)
    best = None
    if left:
        behind = [slow_led(house, now, (door,)) for door in range(len(house[1]))]
        best = [fewest_doors(house, each, is_one) for each in behind].index(left - 1)
    return (now, row, left, best)


class TestGoing(unittest.TestCase):
    def test_by_hand(self):
        game = Game(THREE, (0, 1, 2))
        self.assertEqual(all_told(game), ((0, 1, 2), (), 4, 1))
        self.assertEqual(game.go(1), 2)
        self.assertEqual(all_told(game), ((0, 1), (1,), 3, 0))
        self.assertEqual(game.go(0), 2)
        self.assertEqual(all_told(game), ((1, 2), (1, 0), 2, 0))
        self.assertEqual(game.go(1), 2)
        self.assertEqual(all_told(game), ((0, 1), (1, 0, 1), 3, 0))
        self.assertEqual([game.go(0), game.go(0), game.go(1)], [2, 2, 1])
        self.assertEqual(all_told(game), ((0,), (1, 0, 1, 0, 0, 1), 0, None))
        self.assertEqual(game.go(0), 1)
        self.assertEqual(all_told(game), ((1,), (1, 0, 1, 0, 0, 1, 0), 0, None))

    def test_one_counter_has_no_door_left(self):
        self.assertEqual(all_told(Game(ONE, (0,))), ((0,), (), 0, None))
        self.assertEqual(all_told(Game(ROUND, (7,))), ((7,), (), 0, None))

    def test_those_that_can_not_gather(self):
        game = Game(SWAPS, (0, 2))
        self.assertEqual(all_told(game), ((0, 2), (), None, None))
        self.assertEqual(game.go(1), 2)
        self.assertEqual(all_told(game), ((0, 3), (1,), None, None))

    def test_the_best_door_may_be_door_nought(self):
        self.assertEqual(all_told(Game(TWO, (0, 1))), ((0, 1), (), 1, 1))
        self.assertEqual(all_told(Game((2, ((0, 0), (1, 1))), (0, 1))), ((0, 1), (), 1, 0))

    def test_the_best_doors_make_the_shortest_row(self):
        for many in range(2, 9):
            game = Game(slow_house(many), tuple(range(many)))
            while game.left():
                left = game.left()
                game.go(game.best())
                self.assertEqual(game.left(), left - 1)
            self.assertEqual(game.row(), slow_row(many))
            self.assertEqual(len(game.places()), 1)

    def test_more_doors_than_a_row_may_have(self):
        game = Game(ROUND, (0, 3))
        for turn in range(150):
            self.assertEqual(game.go(0), 2)
        self.assertEqual(game.row(), (0,) * 150)
        self.assertEqual(game.places(), (1, 6))
        for turn in range(150):
            self.assertEqual(game.undo(), 0)
        self.assertEqual((game.row(), game.places()), ((), (0, 3)))

    def test_beside_slow_searches(self):
        chance = random.Random(21)
        for turn in range(60):
            many = chance.randrange(1, 7)
            house = some_house(chance, many, chance.choice((1, 2, 3)))
            places = chance.choice(subsets(many))
            game = Game(house, places)
            row = ()
            for step in range(12):
                self.assertEqual(all_told(game), slow_told(house, places, row))
                if row and chance.random() < 0.4:
                    self.assertEqual(game.undo(), row[-1])
                    row = row[:-1]
                else:
                    row = row + (chance.randrange(len(house[1])),)
                    self.assertEqual(game.go(row[-1]), len(slow_led(house, places, row)))


class TestTakenBack(Refusing):
    def test_by_hand(self):
        game = Game(THREE, (0, 1, 2))
        for door in (1, 0, 0, 1):
            game.go(door)
        self.assertEqual(all_told(game), ((0,), (1, 0, 0, 1), 0, None))
        self.assertEqual(game.undo(), 1)
        self.assertEqual(all_told(game), ((0, 2), (1, 0, 0), 1, 1))
        self.assertEqual(game.undo(), 0)
        self.assertEqual(all_told(game), ((1, 2), (1, 0), 2, 0))
        self.assertEqual(game.go(1), 2)
        self.assertEqual([game.undo(), game.undo(), game.undo()], [1, 0, 1])
        self.assertEqual(all_told(game), ((0, 1, 2), (), 4, 1))

    def test_nothing(self):
        for house, places in [(ONE, (0,)), (TWO, (0, 1)), (THREE, (0, 1, 2))]:
            game = Game(house, places)
            before = all_told(game)
            for turn in range(3):
                self.refused(Nothing, game.undo)
                self.assertEqual(all_told(game), before)
            game.go(0)
            behind = all_told(game)
            self.assertEqual(game.undo(), 0)
            self.refused(Nothing, game.undo)
            self.assertEqual(all_told(game), before)
            game.go(0)
            self.assertEqual(all_told(game), behind)


class TestRefused(Refusing):
    def test_no_house(self):
        for number, house in enumerate(WRONG_HOUSES):
            with self.subTest(number):
                self.refused(NoHouse, Game, house, (0,))

    def test_no_places(self):
        for house in (ONE, TWO, THREE, ROUND):
            for number, places in enumerate(wrong_places(house[0])):
                with self.subTest(many=house[0], wrong=number):
                    self.refused(NoPlaces, Game, house, places)

    def test_no_house_is_named_first(self):
        for house in (None, (2, ((0, 2),)), (9, ()), [2, ((0, 1),)], (True, ((0,),)), (2, ((0, None),))):
            for places in (None, (), (1, 0), (True,), [0]):
                self.refused(NoHouse, Game, house, places)

    def test_no_such_door(self):
        for house in (ONE, TWO, SWAPS):
            doors = len(house[1])
            game = Game(house, (0,))
            game.go(doors - 1)
            before = all_told(game)
            for number, door in enumerate(ODD + [doors, doors + 1, -1, -doors, (), (0,), [0], "0", {0: 0}]):
                with self.subTest(doors=doors, wrong=number):
                    self.refused(NoRow, game.go, door)
                    self.assertEqual(all_told(game), before)
            self.assertEqual(game.undo(), doors - 1)
            self.refused(Nothing, game.undo)

    def test_what_is_handed_in_is_as_before(self):
        house = [2, [[0, 1]]]
        places = [1, 0]
        door = [0]
        self.refused(NoHouse, Game, house, places)
        self.refused(NoPlaces, Game, TWO, places)
        self.refused(NoRow, Game(TWO, (0,)).go, door)
        self.assertEqual((house, places, door), ([2, [[0, 1]]], [1, 0], [0]))
        house = (3, ((1, 2, 0), (0, 1, 0)))
        places = (0, 1, 2)
        game = Game(house, places)
        for door in (1, 0, 0, 1):
            game.go(door)
        game.undo()
        self.assertEqual((house, places), ((3, ((1, 2, 0), (0, 1, 0))), (0, 1, 2)))


class TestSeveralGames(unittest.TestCase):
    def test_they_do_not_change_each_other(self):
        one = Game(THREE, (0, 1, 2))
        other = Game(THREE, (0, 1, 2))
        one.go(1)
        one.go(0)
        self.assertEqual(all_told(other), ((0, 1, 2), (), 4, 1))
        other.go(0)
        self.assertEqual(all_told(one), ((1, 2), (1, 0), 2, 0))
        self.assertEqual(one.undo(), 0)
        self.assertEqual(all_told(other), ((0, 1, 2), (0,), 4, 1))
        self.assertEqual(all_told(one), ((0, 1), (1,), 3, 0))
        self.assertEqual(other.undo(), 0)
        self.assertEqual(all_told(one), ((0, 1), (1,), 3, 0))

    def test_one_begun_where_another_is(self):
        one = Game(THREE, (0, 1, 2))
        one.go(1)
        other = Game(THREE, one.places())
        other.go(0)
        self.assertEqual(all_told(one), ((0, 1), (1,), 3, 0))
        self.assertEqual(all_told(other), ((1, 2), (0,), 2, 0))

    def test_equal_calls_give_equal_answers(self):
        chance = random.Random(22)
        for turn in range(20):
            house = some_house(chance, 4, 3)
            same = (4, tuple(tuple(list(door)) for door in house[1]))
            one = Game(house, (0, 1, 3))
            other = Game(same, tuple([0, 1, 3]))
            for step in range(15):
                if one.row() and chance.random() < 0.4:
                    self.assertEqual(one.undo(), other.undo())
                else:
                    door = chance.randrange(3)
                    self.assertEqual(one.go(door), other.go(door))
                self.assertEqual(all_told(one), all_told(other))

    def test_asking_changes_nothing(self):
        game = Game(THREE, (0, 1, 2))
        game.go(1)
        row = game.row()
        told = [all_told(game) for turn in range(3)]
        self.assertEqual(told, [((0, 1), (1,), 3, 0)] * 3)
        game.go(0)
        self.assertEqual(row, (1,))


class TestInterface(unittest.TestCase):
    def test_arguments(self):
        self.assertEqual(list(inspect.signature(games.Game).parameters), ["house", "places"])
        wanted = {"places": [], "row": [], "go": ["door"], "left": [], "best": [], "undo": []}
        for name, arguments in wanted.items():
            self.assertEqual(list(inspect.signature(getattr(Game, name)).parameters), ["self"] + arguments)

    def test_kinds(self):
        game = Game(house=THREE, places=(0, 1, 2))
        told = [game.go(door=1), game.places(), game.row(), game.left(), game.best(), game.undo()]
        self.assertEqual([type(each) for each in told], [int, tuple, tuple, int, int, int])


if __name__ == "__main__":
    unittest.main()
