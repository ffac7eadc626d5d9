import inspect
import itertools
import random
import unittest

from gatherall import webs
from gatherall.errors import Never
from gatherall.webs import bar, is_bar, is_plan, plan, rounds, steps
from tests.things import ODD, all_go, all_webs, one_goes, path, ring, slow_moves, some_web, subsets, walks

TWO_PARTS = (6, ((0, 1), (1, 2), (3, 4), (4, 5)))
TAIL = (5, ((0, 1), (0, 2), (1, 2), (2, 3), (3, 4)))


def bars(web, places, sides):
    allowed = [(0, 1), (1, 0), (2, 2), (3, 3)]
    fit = [(sides[tie[0]], sides[tie[1]]) in allowed for tie in web[1]]
    return all(fit) and len({sides[place] for place in places}) > 1


class TestSteps(unittest.TestCase):
    def test_one_counter_needs_none(self):
        self.assertEqual(steps((1, ()), (0,)), (0, 0))
        self.assertEqual(steps((8, ()), (7,)), (0, 7))
        self.assertEqual(steps(ring(8), (5,)), (0, 5))

    def test_by_hand(self):
        self.assertEqual(steps(path(3), (0, 2)), (2, 0))
        self.assertEqual(steps(path(3), (0, 1, 2)), (2, 1))
        self.assertEqual(steps(path(8), (0, 1, 7)), (7, 1))
        self.assertEqual(steps(path(8), tuple(range(8))), (16, 3))
        self.assertEqual(steps(ring(8), tuple(range(8))), (16, 0))
        self.assertEqual(steps(ring(6), (1, 3, 5)), (4, 1))
        self.assertEqual(steps((4, ((0, 3), (1, 3), (2, 3))), (0, 1, 2)), (3, 3))
        self.assertEqual(steps(TAIL, (0, 1, 4)), (4, 0))

    def test_the_least_place_of_several(self):
        self.assertEqual(steps(path(8), (2, 6)), (4, 2))
        self.assertEqual(steps((4, ((0, 2), (0, 3), (1, 2), (1, 3))), (2, 3)), (2, 0))

    def test_none_where_they_can_not(self):
        self.assertIsNone(steps((2, ()), (0, 1)))
        self.assertIsNone(steps((8, ()), tuple(range(8))))
        self.assertIsNone(steps(TWO_PARTS, (0, 5)))
        self.assertEqual(steps(TWO_PARTS, (3, 5)), (2, 3))

    def test_beside_a_slow_search(self):
        for many in (1, 2, 3, 4):
            for web in all_webs(many):
                for places in subsets(many):
                    self.assertEqual(steps(web, places), slow_moves(web, places, one_goes), (web, places))

    def test_beside_a_slow_search_at_eight(self):
        chance = random.Random(3)
        for turn in range(40):
            web = some_web(chance, 8, 0.25)
            places = tuple(sorted(chance.sample(range(8), 3)))
            self.assertEqual(steps(web, places), slow_moves(web, places, one_goes), (web, places))


class TestRounds(unittest.TestCase):
    def test_one_counter_needs_none(self):
        self.assertEqual(rounds((1, ()), (0,)), (0, 0))
        self.assertEqual(rounds((8, ()), (6,)), (0, 6))
        self.assertEqual(rounds(path(8), (7,)), (0, 7))

    def test_even_rings(self):
        self.assertIsNone(rounds(ring(4), (0, 1)))
        self.assertEqual(rounds(ring(4), (0, 2)), (1, 1))
        self.assertEqual(rounds(ring(8), (0, 4)), (2, 2))
        self.assertEqual(rounds(ring(8), (0, 2, 4, 6)), (3, 1))
        self.assertIsNone(rounds(ring(8), (0, 2, 5)))
        self.assertIsNone(rounds(ring(8), tuple(range(8))))

    def test_odd_rings(self):
        self.assertEqual(rounds(ring(3), (0, 1)), (1, 2))
        self.assertEqual(rounds(ring(3), (0, 1, 2)), (2, 0))
        self.assertEqual(rounds(ring(5), (0, 1)), (2, 3))
        self.assertEqual(rounds(ring(7), tuple(range(7))), (6, 0))
        self.assertEqual(rounds(ring(7), (0, 1)), (3, 4))

    def test_a_long_way_round_an_odd_ring(self):
        # Both have to go to the far ring of three and back: no sooner can odd meet even.
        web = (8, ((0, 1), (1, 2), (2, 3), (3, 4), (4, 5), (5, 6), (5, 7), (6, 7)))
        self.assertEqual(rounds(web, (0, 1)), slow_moves(web, (0, 1), all_go))
        self.assertEqual(rounds(web, (0, 1)), (6, 6))
        self.assertEqual(rounds(TAIL, (3, 4)), (3, 0))

    def test_a_web_without_ties(self):
        self.assertIsNone(rounds((2, ()), (0, 1)))
        self.assertIsNone(rounds((8, ()), (0, 1, 2)))

    def test_two_places(self):
        self.assertIsNone(rounds(path(2), (0, 1)))
        self.assertEqual(rounds(path(2), (1,)), (0, 1))

    def test_beside_a_slow_search(self):
        for many in (1, 2, 3, 4):
            for web in all_webs(many):
                for places in subsets(many):
                    self.assertEqual(rounds(web, places), slow_moves(web, places, all_go), (web, places))

    def test_beside_a_slow_search_at_eight(self):
        chance = random.Random(4)
        for turn in range(80):
            web = some_web(chance, 8, 0.22)
            places = tuple(sorted(chance.sample(range(8), chance.choice((2, 3)))))
            self.assertEqual(rounds(web, places), slow_moves(web, places, all_go), (web, places))


class TestPlan(unittest.TestCase):
    def test_by_hand(self):
        self.assertEqual(plan((1, ()), (0,)), [(0,)])
        self.assertEqual(plan(path(8), (7,)), [(7,)])
        self.assertEqual(plan(ring(4), (0, 2)), [(0, 1), (2, 1)])
        self.assertEqual(plan(path(3), (0, 2)), [(0, 1), (2, 1)])
        self.assertEqual(plan(ring(3), (0, 1, 2)), [(0, 1, 0), (1, 2, 0), (2, 1, 0)])
        self.assertEqual(plan(TAIL, (3, 4)), [(3, 2, 1, 0), (4, 3, 2, 0)])

    def test_the_least_walk_of_several(self):
        self.assertEqual(plan(path(5), (0, 4)), [(0, 1, 2), (4, 3, 2)])
        self.assertEqual(plan(ring(8), (0, 2, 4, 6)), [(0, 1, 0, 1), (2, 1, 0, 1), (4, 3, 2, 1), (6, 7, 0, 1)])

    def test_never(self):
        for web, places in [(path(2), (0, 1)), ((8, ()), (0, 7)), (ring(8), (0, 3)), (TWO_PARTS, (0, 3))]:
            with self.assertRaises(Never):
                plan(web, places)

    def test_beside_all_walks(self):
        chance = random.Random(5)
        webs_and_places = [(web, places) for web in all_webs(4) for places in subsets(4)]
        for turn in range(60):
            places = tuple(sorted(chance.sample(range(8), 2)))
            webs_and_places.append((some_web(chance, 8, 0.25), places))
        for web, places in webs_and_places:
            told = rounds(web, places)
            if told is None:
                with self.assertRaises(Never):
                    plan(web, places)
                continue
            ends = [[walk for walk in walks(web, start, told[0]) if walk[-1] == told[1]] for start in places]
            self.assertEqual(plan(web, places), [min(each) for each in ends], (web, places))
            self.assertTrue(is_plan(web, places, plan(web, places)))


class TestIsPlan(unittest.TestCase):
    def test_plans_of_any_number_of_rounds(self):
        self.assertIs(is_plan((1, ()), (0,), [(0,)]), True)
        self.assertIs(is_plan(path(2), (0,), [(0,)]), True)
        self.assertIs(is_plan(path(2), (0,), [(0, 1) * 100]), True)
        self.assertIs(is_plan(ring(4), (0, 2), [(0, 1), (2, 1)]), True)
        self.assertIs(is_plan(ring(4), (0, 2), [(0, 3), (2, 3)]), True)
        self.assertIs(is_plan(ring(4), (0, 2), [(0, 1, 0, 3), (2, 1, 2, 3)]), True)
        self.assertIs(is_plan(ring(3), (0, 1), [(0, 2), (1, 2)]), True)

    def test_what_is_none(self):
        wrong = [
            [], [(0, 1)], [(2, 1), (0, 1)], [(0, 1), (2, 3)], [(0, 1), (2, 1, 2)], [(0, 1), (2, 1, 0, 1)],
            [(0, 1), (2, 1), (2, 1)], [(0, 1), (1,)], [(0,), (2,)], [(), ()], [(0, 1), ()], [(0, 2), (2, 2)],
            [(0, 0), (2, 0)], [(1,), (1,)], [(0, 4), (2, 4)], [(0, -3), (2, -3)], [(0, 1), (2, 3, 2, 2, 1)],
            [(0, 1), [2, 1]], [[0, 1], [2, 1]], ((0, 1), (2, 1)), [(0, True), (2, True)], [(0, 1), (2, True)],
            [(False, 1), (2, 1)], [(0, None), (2, None)], [(0, "1"), (2, "1")], [None, None], ["01", "21"],
            {0: (0, 1), 2: (2, 1)}, {(0, 1), (2, 1)}, [(0, 1), {2: 1}], [0, 2], [(0, 1), None], [((0,), 1), (2, 1)],
            [(0, (1,)), (2, (1,))], [(0, 1, 10 ** 5000), (2, 1, 10 ** 5000)],
        ]
        itself = []
        itself.append(itself)
        for thing in ODD + wrong + [itself]:
            self.assertIs(is_plan(ring(4), (0, 2), thing), False)

    def test_beside_all_lists_of_two_walks(self):
        web = TAIL
        for moves in range(4):
            rows = list(itertools.product(range(5), repeat=moves + 1))
            good = {start: walks(web, start, moves) for start in (2, 4)}
            for one in rows if moves < 3 else good[2]:
                for other in good[4]:
                    want = one in good[2] and one[-1] == other[-1]
                    self.assertIs(is_plan(web, (2, 4), [one, other]), want)


class TestBar(unittest.TestCase):
    def test_none_where_they_can_gather(self):
        self.assertIsNone(bar((1, ()), (0,)))
        self.assertIsNone(bar((8, ()), (3,)))
        self.assertIsNone(bar(ring(4), (0, 2)))
        self.assertIsNone(bar(ring(7), tuple(range(7))))

    def test_sides_that_bar(self):
        eight = tuple(range(8))
        for web, places in [(path(2), (0, 1)), ((8, ()), eight), (ring(8), eight), (TWO_PARTS, (0, 2, 5))]:
            told = bar(web, places)
            self.assertIsInstance(told, tuple)
            self.assertTrue(bars(web, places, told))
            self.assertIs(is_bar(web, places, told), True)

    def test_sides_where_another_part_has_an_odd_ring(self):
        web = (6, ((0, 1), (2, 3), (2, 4), (3, 4)))
        for places in [(0, 1), (0, 2), (4, 5), (0, 1, 2, 3, 4, 5)]:
            self.assertTrue(bars(web, places, bar(web, places)))

    def test_there_are_such_just_if_they_can_not_gather(self):
        for many in (1, 2, 3, 4):
            all_sides = list(itertools.product(range(4), repeat=many))
            for web in all_webs(many):
                for places in subsets(many):
                    told = bar(web, places)
                    self.assertEqual(told is None, rounds(web, places) is not None)
                    self.assertEqual(told is None, not any(bars(web, places, sides) for sides in all_sides))
                    self.assertTrue(told is None or bars(web, places, told), (web, places))

    def test_at_eight(self):
        chance = random.Random(6)
        for turn in range(300):
            web = some_web(chance, 8, chance.choice((0.1, 0.2, 0.3)))
            places = tuple(sorted(chance.sample(range(8), chance.randrange(1, 9))))
            told = bar(web, places)
            self.assertEqual(told is None, rounds(web, places) is not None)
            self.assertTrue(told is None or bars(web, places, told), (web, places))


class TestIsBar(unittest.TestCase):
    def test_beside_the_words(self):
        for web in [(1, ()), (2, ()), path(2), path(3), ring(3), (3, ((0, 1),)), ring(4), (4, ((0, 1), (2, 3)))]:
            for places in subsets(web[0]):
                for sides in itertools.product(range(-1, 5), repeat=web[0]):
                    want = min(sides) >= 0 and max(sides) <= 3 and bars(web, places, sides)
                    self.assertIs(is_bar(web, places, sides), want, (web, places, sides))

    def test_what_is_none(self):
        self.assertIs(is_bar((2, ()), (0, 1), (0, 1)), True)
        self.assertIs(is_bar((2, ()), (0, 1), (3, 1)), True)
        wrong = [
            (), (0,), (1,), (0, 1, 0), (0, 0), (0, 4), (-1, 0), (2, 2), (0, True), (False, 1), (2, True), [0, 1],
            (0, None), (0, "1"), "01", {0: 0, 1: 1}, {0, 1}, ((0,), (1,)), (0, (1,)), (2, 10 ** 5000), (2, 3, 3),
        ]
        itself = []
        itself.append(itself)
        for thing in ODD:
            self.assertIs(is_bar((3, ()), (0, 1), thing), False)
        for thing in wrong + [itself]:
            self.assertIs(is_bar((2, ()), (0, 1), thing), False)

    def test_nothing_bars_one_counter(self):
        for sides in itertools.product(range(4), repeat=2):
            self.assertIs(is_bar((2, ()), (1,), sides), False)


class TestInterface(unittest.TestCase):
    def test_arguments(self):
        for name in ("steps", "rounds", "bar", "plan"):
            self.assertEqual(list(inspect.signature(getattr(webs, name)).parameters), ["web", "places"])
        for name in ("is_plan", "is_bar"):
            self.assertEqual(list(inspect.signature(getattr(webs, name)).parameters), ["web", "places", "thing"])

    def test_kinds(self):
        self.assertEqual([type(each) for each in (steps(path(3), (0, 2)), rounds(path(3), (0, 2)))], [tuple, tuple])
        self.assertEqual([type(each) for each in plan(path(3), (0, 2))], [tuple, tuple])
        self.assertEqual(type(plan(path(3), (0, 2))), list)
        self.assertEqual(type(bar(path(3), (0, 1))), tuple)
        self.assertEqual({type(each) for each in bar(path(3), (0, 1))}, {int})


class TestNothingKept(unittest.TestCase):
    def test_a_plan_that_is_changed_changes_nothing(self):
        first = plan(ring(3), (0, 1, 2))
        again = list(first)
        first.clear()
        self.assertEqual(plan(ring(3), (0, 1, 2)), again)
        self.assertIsNot(plan(ring(3), (0, 1, 2)), plan(ring(3), (0, 1, 2)))

    def test_what_is_handed_in_is_as_before(self):
        thing = [(0, 1), (2, 1)]
        self.assertTrue(is_plan(ring(4), (0, 2), thing))
        self.assertEqual(thing, [(0, 1), (2, 1)])
        wrong = [[0, 1], {2: 1}]
        self.assertFalse(is_plan(ring(4), (0, 2), wrong))
        self.assertFalse(is_bar(ring(4), (0, 2), wrong))
        self.assertEqual(wrong, [[0, 1], {2: 1}])

    def test_a_thing_that_was_handed_in_and_then_changed(self):
        thing = [(0, 1), (2, 1)]
        self.assertTrue(is_plan(ring(4), (0, 2), thing))
        thing.append((2, 1))
        self.assertFalse(is_plan(ring(4), (0, 2), thing))
        thing.pop()
        self.assertTrue(is_plan(ring(4), (0, 2), thing))

    def test_equal_things_give_equal_answers(self):
        for ask in (steps, rounds, plan, bar):
            self.assertEqual(ask((4, tuple(list(ring(4)[1]))), (0, 2)), ask(ring(4), tuple([0, 2])))


if __name__ == "__main__":
    unittest.main()
