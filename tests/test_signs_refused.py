import itertools
import unittest

from gatherall.errors import NoHouse, NoPlaces, NoRow, NoSigns
from gatherall.signs import asking, can_be, telling_row
from tests.things import WRONG_HOUSES, Refusing, wrong_places, wrong_rows, wrong_signs

ONE = (1, ((0,),))
TWO = (2, ((0, 1), (1, 1)))
SIX = (6, ((1, 2, 3, 4, 5, 0), (0, 0, 2, 3, 4, 5), (5, 4, 3, 2, 1, 0)))
SEVEN = (7, ((1, 2, 3, 4, 5, 6, 0),))
EIGHT = (8, ((1, 2, 3, 4, 5, 6, 7, 0), (0, 0, 2, 3, 4, 5, 6, 7)))
HOUSES = (ONE, TWO, SIX)


def is_seen(house, signs, places):
    """can_be, of what else is handed in nothing is wrong."""
    return can_be(house, signs, places, (), (0,))


ASKED = (is_seen, telling_row, asking)


class TestNoHouse(Refusing):
    def test_no_house(self):
        for ask in ASKED:
            for number, house in enumerate(WRONG_HOUSES):
                with self.subTest(ask=ask.__name__, wrong=number):
                    self.refused(NoHouse, ask, house, (0, 0), (0,))

    def test_more_than_six_rooms(self):
        for house in (SEVEN, EIGHT):
            signs = (0,) * house[0]
            for ask in (telling_row, asking):
                for places in ((0,), (0, 1), tuple(range(house[0]))):
                    self.refused(NoHouse, ask, house, signs, places)
                    self.refused(NoHouse, ask, house, (0, 1, 2, 3, 0, 1, 2, 3)[:house[0]], places)
            self.assertEqual(can_be(house, signs, (0, 1), (), (0,)), [0, 1])
        self.assertEqual(telling_row(SIX, (0,) * 6, (0, 1)), (1,))
        self.assertEqual(asking(SIX, (0,) * 6, (0, 1)), 1)

    def test_more_than_six_rooms_is_named_last(self):
        for house in (SEVEN, EIGHT):
            signs = (0,) * house[0]
            for ask in (telling_row, asking):
                for places in ((0,), None, (), (8,)):
                    self.refused(NoSigns, ask, house, signs[1:], places)
                    self.refused(NoSigns, ask, house, None, places)
                for places in wrong_places(house[0]):
                    self.refused(NoPlaces, ask, house, signs, places)


class TestNoSigns(Refusing):
    def test_no_signs(self):
        for ask in ASKED:
            for house in HOUSES + (EIGHT,):
                for number, signs in enumerate(wrong_signs(house[0])):
                    with self.subTest(ask=ask.__name__, many=house[0], wrong=number):
                        self.refused(NoSigns, ask, house, signs, (0,))

    def test_signs_of_nought_to_three(self):
        for signs in itertools.product(range(-1, 6), repeat=2):
            if min(signs) >= 0 and max(signs) <= 3:
                self.assertEqual(can_be(TWO, signs, (0, 1), (), (signs[0],))[0], 0)
                self.assertEqual(asking(TWO, signs, (0, 1)), int(signs[0] == signs[1]))
                self.assertEqual(telling_row(TWO, signs, (0, 1)), (1,) * (signs[0] == signs[1]))
            else:
                for ask in ASKED:
                    self.refused(NoSigns, ask, TWO, signs, (0, 1))


class TestNoPlaces(Refusing):
    def test_no_places(self):
        for ask in ASKED:
            for house in HOUSES:
                for number, places in enumerate(wrong_places(house[0])):
                    with self.subTest(ask=ask.__name__, many=house[0], wrong=number):
                        self.refused(NoPlaces, ask, house, (0,) * house[0], places)


class TestNoRow(Refusing):
    def test_no_row(self):
        for house in HOUSES:
            for number, row in enumerate(wrong_rows(len(house[1]))):
                with self.subTest(many=house[0], wrong=number):
                    self.refused(NoRow, can_be, house, (0,) * house[0], (0,), row, (0,))
                    if isinstance(row, tuple):
                        self.refused(NoRow, can_be, house, (0,) * house[0], (0,), row, (0,) * (len(row) + 1))


class TestNoSignsSeen(Refusing):
    def test_what_was_seen(self):
        for house in HOUSES:
            for row in ((), (0,), (0, 0, 0), (0,) * 60):
                for number, seen in enumerate(wrong_signs(len(row) + 1)):
                    with self.subTest(many=house[0], row=len(row), wrong=number):
                        self.refused(NoSigns, can_be, house, (0,) * house[0], (0,), row, seen)

    def test_a_sign_more_than_doors(self):
        for doors in range(5):
            for signs in range(8):
                if signs == doors + 1:
                    self.assertEqual(can_be(SIX, (0,) * 6, (0,), (1,) * doors, (0,) * signs), [0])
                else:
                    self.refused(NoSigns, can_be, SIX, (0,) * 6, (0,), (1,) * doors, (0,) * signs)


class TestTheFirstNamed(Refusing):
    def test_two_that_fit(self):
        right = (TWO, (0, 1), (0, 1), (0,), (0, 0))
        wrong = (None, (0, 4), (1, 0), (2,), (0,))
        errors = (NoHouse, NoSigns, NoPlaces, NoRow, NoSigns)
        self.assertEqual(can_be(*right), [0])
        for chosen in itertools.product([False, True], repeat=5):
            handed_in = [wrong[k] if chosen[k] else right[k] for k in range(5)]
            if any(chosen):
                self.refused(errors[chosen.index(True)], can_be, *handed_in)
            if any(chosen[:3]):
                for ask in (telling_row, asking):
                    self.refused(errors[chosen.index(True)], ask, *handed_in[:3])

    def test_no_row_is_named_ahead_of_what_was_seen(self):
        self.refused(NoRow, can_be, TWO, (0, 0), (0,), None, None)
        self.refused(NoRow, can_be, TWO, (0, 0), (0,), (2,), ())
        self.refused(NoSigns, can_be, TWO, None, (0,), (2,), ())


class TestNothingChanged(Refusing):
    def test_what_is_handed_in_is_as_before(self):
        lists = [[2, [[0, 1]]], [0, 0], [1, 0], [0], [0, 0]]
        right = [TWO, (0, 0), (0, 1), (0,), (0, 0)]
        errors = (NoHouse, NoSigns, NoPlaces, NoRow, NoSigns)
        for k in range(5):
            self.refused(errors[k], can_be, *(right[:k] + [lists[k]] + right[k + 1:]))
            if k < 3:
                for ask in (telling_row, asking):
                    self.refused(errors[k], ask, *(right[:k] + [lists[k]] + right[k + 1:])[:3])
        self.assertEqual(lists, [[2, [[0, 1]]], [0, 0], [1, 0], [0], [0, 0]])


if __name__ == "__main__":
    unittest.main()
