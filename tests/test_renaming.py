import inspect
import itertools
import random
import unittest

from gatherall import renaming
from gatherall.errors import NoHouse, NoNames, NoWeb
from gatherall.houses import gather
from gatherall.renaming import renamed_house, renamed_web, reordered
from gatherall.webs import rounds, steps
from tests.things import (
    WRONG_HOUSES, WRONG_WEBS, Refusing, all_webs, path, ring, slow_led, some_house, some_web, subsets, wrong_names,
)

THREE = (3, ((1, 2, 0), (0, 1, 0), (2, 2, 1)))
SWAPS = (4, ((1, 0, 2, 3), (0, 1, 3, 2), (0, 0, 2, 3)))


def called(places, names):
    return tuple(sorted(names[place] for place in places))


def backwards(names):
    return tuple(names.index(number) for number in range(len(names)))


class TestRenamedWeb(unittest.TestCase):
    def test_by_hand(self):
        self.assertEqual(renamed_web((1, ()), (0,)), (1, ()))
        self.assertEqual(renamed_web((2, ((0, 1),)), (1, 0)), (2, ((0, 1),)))
        self.assertEqual(renamed_web(path(3), (1, 2, 0)), (3, ((0, 2), (1, 2))))
        self.assertEqual(renamed_web(path(3), (2, 0, 1)), (3, ((0, 1), (0, 2))))
        self.assertEqual(renamed_web((4, ((0, 1), (0, 2))), (3, 1, 0, 2)), (4, ((0, 3), (1, 3))))
        self.assertEqual(renamed_web((4, ((0, 3),)), (2, 3, 0, 1)), (4, ((1, 2),)))
        self.assertEqual(renamed_web(path(8), (7, 6, 5, 4, 3, 2, 1, 0)), path(8))

    def test_ties_have_the_names_of_their_places(self):
        for many in (1, 2, 3, 4):
            for web in all_webs(many):
                for names in itertools.permutations(range(many)):
                    want = sorted(called(tie, names) for tie in web[1])
                    self.assertEqual(renamed_web(web, names), (many, tuple(want)))

    def test_what_is_told_of_it_is_renamed_too(self):
        chance = random.Random(31)
        for turn in range(60):
            many = chance.randrange(2, 9)
            web = some_web(chance, many, 0.4)
            names = tuple(chance.sample(range(many), many))
            places = chance.choice(subsets(many))
            new = renamed_web(web, names)
            for ask in (steps, rounds):
                told = [ask(web, places), ask(new, called(places, names))]
                self.assertEqual([each and each[0] for each in told][0], [each and each[0] for each in told][1])
            self.assertEqual(renamed_web(new, backwards(names)), web)


class TestRenamedHouse(unittest.TestCase):
    def test_by_hand(self):
        self.assertEqual(renamed_house((1, ((0,),)), (0,)), (1, ((0,),)))
        self.assertEqual(renamed_house((2, ((0, 0), (0, 1))), (1, 0)), (2, ((1, 1), (0, 1))))
        self.assertEqual(renamed_house(THREE, (0, 1, 2)), THREE)
        # 0 is called 1, 1 is called 2, 2 is called 0.
        self.assertEqual(renamed_house(THREE, (1, 2, 0)), (3, ((1, 2, 0), (1, 1, 2), (2, 0, 0))))
        self.assertEqual(renamed_house(THREE, (2, 0, 1)), (3, ((1, 2, 0), (0, 2, 2), (1, 0, 1))))
        self.assertEqual(renamed_house((4, ((0, 0, 1, 2),)), (3, 1, 0, 2)), (4, ((1, 3, 0, 3),)))

    def test_doors_lead_between_the_names(self):
        chance = random.Random(32)
        asked = [(some_house(chance, many, 2), names) for many in (1, 2, 3, 4)
                 for names in itertools.permutations(range(many)) for turn in range(5)]
        for many in (5, 6, 7, 8):
            names = tuple(chance.sample(range(many), many))
            asked += [(some_house(chance, many, doors), names) for doors in (1, 2, 3)]
        for house, names in asked:
            new = renamed_house(house, names)
            self.assertEqual((new[0], len(new[1])), (house[0], len(house[1])))
            for door in range(len(house[1])):
                for room in range(house[0]):
                    self.assertEqual(new[1][door][names[room]], names[house[1][door][room]])
            self.assertEqual(renamed_house(new, backwards(names)), house)

    def test_the_same_rows_gather(self):
        chance = random.Random(33)
        for turn in range(60):
            many = chance.randrange(2, 7)
            house = some_house(chance, many, 2)
            names = tuple(chance.sample(range(many), many))
            places = chance.choice(subsets(many))
            row = tuple(chance.randrange(2) for door in range(4))
            new = renamed_house(house, names)
            self.assertEqual(gather(new, called(places, names)), gather(house, places))
            self.assertEqual(slow_led(new, called(places, names), row), called(slow_led(house, places, row), names))


class TestReordered(unittest.TestCase):
    def test_by_hand(self):
        first, second, third = THREE[1]
        self.assertEqual(reordered(THREE, (0, 1, 2)), THREE)
        self.assertEqual(reordered(THREE, (1, 2, 0)), (3, (second, third, first)))
        self.assertEqual(reordered(THREE, (2, 0, 1)), (3, (third, first, second)))
        self.assertEqual(reordered(THREE, (2, 1, 0)), (3, (third, second, first)))
        self.assertEqual(reordered((2, ((0, 0), (1, 1))), (1, 0)), (2, ((1, 1), (0, 0))))
        self.assertEqual(reordered((8, (tuple(range(8)),)), (0,)), (8, (tuple(range(8)),)))

    def test_the_door_that_it_tells_first_stands_first(self):
        for order in itertools.permutations(range(3)):
            new = reordered(SWAPS, order)
            for place in range(3):
                self.assertEqual(new[1][place], SWAPS[1][order[place]])
            self.assertEqual(reordered(new, backwards(order)), SWAPS)


class TestRefused(Refusing):
    def test_no_web(self):
        for number, web in enumerate(WRONG_WEBS):
            for names in [(0,), (0, 1), (1, 0), None]:
                with self.subTest(wrong=number, names=names):
                    self.refused(NoWeb, renamed_web, web, names)

    def test_no_house(self):
        for number, house in enumerate(WRONG_HOUSES):
            for names in [(0,), (0, 1), (1, 0), None]:
                with self.subTest(wrong=number, names=names):
                    self.refused(NoHouse, renamed_house, house, names)
                    self.refused(NoHouse, reordered, house, names)

    def test_no_names(self):
        for many in range(1, 9):
            house = (many, (tuple(range(many)),))
            for number, names in enumerate(wrong_names(many)):
                with self.subTest(many=many, wrong=number):
                    self.refused(NoNames, renamed_web, ring(many) if many > 2 else (many, ()), names)
                    self.refused(NoNames, renamed_house, house, names)

    def test_no_order(self):
        for many in (1, 3, 8):
            for doors in (1, 2, 3):
                house = (many, (tuple(range(many)),) * doors)
                for number, order in enumerate(wrong_names(doors)):
                    with self.subTest(doors=doors, wrong=number):
                        self.refused(NoNames, reordered, house, order)

    def test_names_are_of_rooms_and_an_order_is_of_doors(self):
        self.refused(NoNames, renamed_house, SWAPS, (0, 1, 2))
        self.refused(NoNames, reordered, SWAPS, (0, 1, 2, 3))

    def test_what_was_refused_is_as_before(self):
        web = [2, [[0, 1]]]
        names = [1, 0]
        self.refused(NoWeb, renamed_web, web, names)
        self.refused(NoHouse, renamed_house, web, names)
        self.refused(NoHouse, reordered, web, names)
        self.refused(NoNames, renamed_web, path(2), names)
        self.refused(NoNames, renamed_house, (2, ((0, 1), (1, 0))), names)
        self.refused(NoNames, reordered, (2, ((0, 1), (1, 0))), names)
        self.assertEqual((web, names), ([2, [[0, 1]]], [1, 0]))


class TestInterface(unittest.TestCase):
    def test_arguments(self):
        wanted = {
            "renamed_web": ["web", "names"], "renamed_house": ["house", "names"], "reordered": ["house", "order"],
        }
        for name, arguments in wanted.items():
            self.assertEqual(list(inspect.signature(getattr(renaming, name)).parameters), arguments)

    def test_kinds(self):
        web = renamed_web(path(3), (1, 2, 0))
        house = renamed_house(THREE, (1, 2, 0))
        other = reordered(THREE, (1, 2, 0))
        kinds = {type(each) for each in (web, web[1], web[1][0], house, house[1], house[1][0], other, other[1])}
        self.assertEqual(kinds, {tuple})

    def test_what_is_handed_in_is_as_before(self):
        web, house, names = path(3), (3, ((1, 2, 0), (0, 1, 0))), (1, 2, 0)
        renamed_web(web, names)
        renamed_house(house, names)
        reordered(house, (1, 0))
        self.assertEqual((web, house, names), (path(3), (3, ((1, 2, 0), (0, 1, 0))), (1, 2, 0)))

    def test_equal_things_give_equal_answers(self):
        self.assertEqual(renamed_web(path(3), tuple([1, 2, 0])), renamed_web((3, tuple(path(3)[1])), (1, 2, 0)))
        self.assertEqual(renamed_house(THREE, tuple([1, 2, 0])), renamed_house((3, tuple(THREE[1])), (1, 2, 0)))


if __name__ == "__main__":
    unittest.main()
