import unittest

from gatherall import both
from gatherall.errors import NoHouse, NoPlaces
from tests.things import WRONG_HOUSES, Refusing, wrong_places

ONE = (1, ((0,),))
TWO = (2, ((0, 1),))
FIVE = (5, ((0, 1, 2, 3, 4),))
SIX = (6, ((0, 1, 2, 3, 4, 5),))
EIGHT = (8, (tuple(range(8)),))
TWO_DOORS = (2, ((0, 1), (1, 1)))
THREE_DOORS = (2, ((0, 1), (1, 1), (0, 0)))

ASKED = [
    both.both_row,
    both.both_bar,
    lambda one, other, places, others: both.is_both_bar(one, other, places, others, [((0, 1), (0, 1))]),
    lambda one, other, places, others: both.is_both_bar(one, other, places, others, None),
]


class TestRefused(Refusing):
    def all_refuse(self, wanted, one, other, places, others):
        for number, ask in enumerate(ASKED):
            with self.subTest(number):
                self.refused(wanted, ask, one, other, places, others)

    def test_no_house(self):
        for number, house in enumerate(WRONG_HOUSES):
            with self.subTest(wrong=number):
                self.all_refuse(NoHouse, house, ONE, (0,), (0,))
                self.all_refuse(NoHouse, ONE, house, (0,), (0,))
                self.all_refuse(NoHouse, house, house, (0,), (0,))

    def test_unlike_counts_of_doors(self):
        for one, other in [(TWO, TWO_DOORS), (TWO, THREE_DOORS), (TWO_DOORS, THREE_DOORS), (FIVE, TWO_DOORS)]:
            self.all_refuse(NoHouse, one, other, (0,), (0,))
            self.all_refuse(NoHouse, other, one, (0,), (0,))

    def test_more_than_five_rooms(self):
        for house in (SIX, (7, (tuple(range(7)),)), EIGHT):
            self.all_refuse(NoHouse, house, TWO, (0,), (0,))
            self.all_refuse(NoHouse, TWO, house, (0,), (0,))
            self.all_refuse(NoHouse, house, house, (0,), (0,))

    def test_five_rooms_are_not_too_many(self):
        self.assertEqual(both.both_row(FIVE, FIVE, (4,), (0,)), ())
        self.assertIsNone(both.both_row(FIVE, FIVE, (4,), (0, 4)))
        self.assertEqual(both.both_bar(FIVE, FIVE, (4,), (0, 4)), [((4,), (0, 4))])
        self.assertIs(both.is_both_bar(FIVE, FIVE, (4,), (0, 4), [((4,), (0, 4))]), True)

    def test_no_places(self):
        for house, other in [(ONE, FIVE), (TWO, ONE), (FIVE, TWO), (TWO_DOORS, TWO_DOORS)]:
            for number, places in enumerate(wrong_places(house[0])):
                with self.subTest(many=house[0], wrong=number):
                    self.all_refuse(NoPlaces, house, other, places, (0,))
                    self.all_refuse(NoPlaces, other, house, (0,), places)
                    self.all_refuse(NoPlaces, house, house, places, places)

    def test_places_are_of_their_own_house(self):
        self.all_refuse(NoPlaces, TWO, FIVE, (4,), (0,))
        self.all_refuse(NoPlaces, FIVE, TWO, (0,), (4,))
        self.assertEqual(both.both_row(FIVE, TWO, (4,), (1,)), ())
        self.assertEqual(both.both_row(TWO, FIVE, (1,), (4,)), ())

    def test_no_house_is_named_first(self):
        unlike = [
            (None, TWO), (TWO, None), (TWO, TWO_DOORS), (SIX, TWO), (TWO, SIX), (TWO, (2, ())), ((2, ((0, 2),)), TWO),
            (TWO, (2, ((0, None),))), ([2, ((0, 1),)], TWO), (TWO, (9, ())), ((True, ((0,),)), TWO),
        ]
        for one, other in unlike:
            for places in (None, (), (1, 0), (9,), (True,), [0]):
                self.all_refuse(NoHouse, one, other, places, (0,))
                self.all_refuse(NoHouse, one, other, (0,), places)
                self.all_refuse(NoHouse, one, other, places, places)

    def test_what_was_refused_is_as_before(self):
        house = [2, [[0, 1]]]
        places = [1, 0]
        self.all_refuse(NoHouse, house, TWO, places, places)
        self.all_refuse(NoHouse, TWO, house, places, places)
        self.all_refuse(NoPlaces, TWO, TWO, places, (0,))
        self.all_refuse(NoPlaces, TWO, TWO, (0,), places)
        self.assertEqual((house, places), ([2, [[0, 1]]], [1, 0]))


if __name__ == "__main__":
    unittest.main()
