import unittest

from gatherall import careful
from gatherall.errors import NoHouse, NoPlaces, NoRow
from tests.things import WRONG_BROKEN_HOUSES, Refusing, wrong_places, wrong_rows

ONE = (1, ((None,),))
TWO = (2, ((0, None), (1, 1)))
THREE = (3, ((0, 1, 2), (None, 2, 0), (None, None, None)))
EIGHT = (8, (tuple(range(8)), (1, 2, 3, 4, 5, 6, 7, None)))

ASKED = [
    careful.open_doors,
    lambda broken, places: careful.careful_led(broken, places, ()),
    careful.careful_reached,
    careful.careful_row,
    careful.careful_bar,
    lambda broken, places: careful.is_careful_bar(broken, places, [(0, 1)]),
    lambda broken, places: careful.is_careful_bar(broken, places, None),
]


class TestRefused(Refusing):
    def test_no_house(self):
        for place, broken in enumerate(WRONG_BROKEN_HOUSES):
            for number, ask in enumerate(ASKED):
                with self.subTest(asked=number, wrong=place):
                    self.refused(NoHouse, ask, broken, (0,))

    def test_no_places(self):
        for broken in (ONE, TWO, THREE, EIGHT):
            for place, places in enumerate(wrong_places(broken[0])):
                for number, ask in enumerate(ASKED):
                    with self.subTest(many=broken[0], asked=number, wrong=place):
                        self.refused(NoPlaces, ask, broken, places)

    def test_no_row(self):
        for broken in (ONE, TWO, THREE, EIGHT):
            for place, row in enumerate(wrong_rows(len(broken[1]))):
                with self.subTest(many=broken[0], wrong=place):
                    self.refused(NoRow, careful.careful_led, broken, (0,), row)

    def test_the_one_that_is_named_first(self):
        for broken in (None, (2, ((None, 2),)), (9, ()), (2, ()), [2, ((0, None),)], (True, ((None,),))):
            for places in (None, (), (1, 0), (True,), [0]):
                for row in (None, (9,), 9, True, (0,) * 61):
                    self.refused(NoHouse, careful.careful_led, broken, places, row)
                    self.refused(NoHouse, careful.is_careful_bar, broken, places, row)
                for ask in ASKED:
                    self.refused(NoHouse, ask, broken, places)
        for places in (None, (), (1, 0), (0, 0), [0], (True,), (2,)):
            # Through door 0 they could not go either.
            for row in (None, (9,), 9, True, (0,) * 61, (0,)):
                self.refused(NoPlaces, careful.careful_led, TWO, places, row)
                self.refused(NoPlaces, careful.is_careful_bar, TWO, places, row)

    def test_what_was_refused_is_as_before(self):
        broken = [2, [[0, None]]]
        places = [1, 0]
        row = [0, 5]
        self.refused(NoHouse, careful.careful_led, broken, places, row)
        self.refused(NoPlaces, careful.careful_led, TWO, places, row)
        self.refused(NoRow, careful.careful_led, TWO, (0,), row)
        self.assertEqual((broken, places, row), ([2, [[0, None]]], [1, 0], [0, 5]))

    def test_the_most_and_the_least(self):
        self.assertEqual(careful.open_doors((8, ((None,) * 8,) * 3), tuple(range(8))), [])
        self.assertEqual(careful.careful_reached(ONE, (0,)), [(0,)])
        self.refused(NoHouse, careful.open_doors, (8, ((None,) * 8,) * 4), (0,))
        self.refused(NoHouse, careful.open_doors, (9, ((None,) * 9,)), (0,))


if __name__ == "__main__":
    unittest.main()
