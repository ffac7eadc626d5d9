import unittest

from gatherall import houses
from gatherall.errors import NoHouse, NoPlace, NoPlaces, NoRow
from tests.things import ODD, WRONG_HOUSES, Refusing, wrong_places, wrong_rows

ONE = (1, ((0,),))
TWO = (2, ((0, 1), (1, 1)))
THREE = (3, ((0, 1, 2), (1, 2, 0), (0, 0, 1)))
EIGHT = (8, (tuple(range(8)), (1, 2, 3, 4, 5, 6, 7, 0)))

WITH_PLACES = [
    lambda house, places: houses.led(house, places, ()),
    lambda house, places: houses.reached(house, places),
    lambda house, places: houses.gather(house, places),
    lambda house, places: houses.fewest(house, places),
    lambda house, places: houses.bar_of(house, places),
    lambda house, places: houses.gather_at(house, places, 0),
    lambda house, places: houses.is_bar_of(house, places, [(0, 1)]),
    lambda house, places: houses.is_bar_of(house, places, None),
]

ALONE = [
    lambda house: houses.pairs_apart(house),
    lambda house: houses.sorted_out(house),
    lambda house: houses.joined(house, ()),
]


class TestRefused(Refusing):
    def test_no_house(self):
        for place, house in enumerate(WRONG_HOUSES):
            for number, ask in enumerate(WITH_PLACES):
                with self.subTest(asked=number, wrong=place):
                    self.refused(NoHouse, ask, house, (0,))
            for number, ask in enumerate(ALONE):
                with self.subTest(alone=number, wrong=place):
                    self.refused(NoHouse, ask, house)

    def test_no_places(self):
        for house in (ONE, TWO, THREE, EIGHT):
            for place, places in enumerate(wrong_places(house[0])):
                for number, ask in enumerate(WITH_PLACES):
                    with self.subTest(many=house[0], asked=number, wrong=place):
                        self.refused(NoPlaces, ask, house, places)

    def test_no_row(self):
        for house in (ONE, TWO, EIGHT):
            for place, row in enumerate(wrong_rows(len(house[1]))):
                with self.subTest(many=house[0], wrong=place):
                    self.refused(NoRow, houses.led, house, (0,), row)
                    self.refused(NoRow, houses.joined, house, row)
        for row in wrong_rows(3):
            self.refused(NoRow, houses.led, THREE, (0,), row)

    def test_sixty_doors_are_a_row_and_sixty_one_are_none(self):
        self.assertEqual(houses.led(TWO, (0, 1), (0,) * 60), (0, 1))
        self.assertEqual(houses.joined(TWO, (0,) * 60), (2, ((0, 1), (1, 1), (0, 1))))
        self.refused(NoRow, houses.led, TWO, (0, 1), (0,) * 61)
        self.refused(NoRow, houses.joined, TWO, (0,) * 61)

    def test_nothing_is_joined_to_three_doors(self):
        for row in [(), (0,), (2, 1, 0), (0,) * 60, None, (3,), [0]]:
            self.refused(NoRow, houses.joined, THREE, row)
        self.refused(NoRow, houses.joined, (1, ((0,), (0,), (0,))), ())

    def test_no_place(self):
        for house in (ONE, TWO, EIGHT):
            wrong = [house[0], house[0] + 1, -1, -house[0], (), (0,), [0], "0"]
            for place, room in enumerate(ODD + wrong):
                with self.subTest(many=house[0], wrong=place):
                    self.refused(NoPlace, houses.gather_at, house, (0,), room)

    def test_the_one_that_is_named_first(self):
        for house in (None, (2, ((0, 2),)), (9, ()), (2, ()), [2, ((0, 1),)], (True, ((0,),))):
            for places in (None, (), (1, 0), (True,)):
                for last in (None, (9,), 9, True):
                    self.refused(NoHouse, houses.led, house, places, last)
                    self.refused(NoHouse, houses.gather_at, house, places, last)
                    self.refused(NoHouse, houses.is_bar_of, house, places, last)
                    self.refused(NoHouse, houses.joined, house, last)
                for ask in WITH_PLACES:
                    self.refused(NoHouse, ask, house, places)
        for places in (None, (), (1, 0), (0, 0), [0], (True,), (2,)):
            for last in (None, (9,), 9, True, (0,) * 61):
                self.refused(NoPlaces, houses.led, TWO, places, last)
                self.refused(NoPlaces, houses.gather_at, TWO, places, last)
                self.refused(NoPlaces, houses.is_bar_of, TWO, places, last)

    def test_what_was_refused_is_as_before(self):
        house = [2, [[0, 1]]]
        places = [1, 0]
        row = [0, 5]
        self.refused(NoHouse, houses.led, house, places, row)
        self.refused(NoPlaces, houses.led, TWO, places, row)
        self.refused(NoRow, houses.led, TWO, (0,), row)
        self.refused(NoRow, houses.joined, TWO, row)
        self.refused(NoPlace, houses.gather_at, TWO, (0,), row)
        self.assertEqual((house, places, row), ([2, [[0, 1]]], [1, 0], [0, 5]))


if __name__ == "__main__":
    unittest.main()
