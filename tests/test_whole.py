"""What the document promises over the whole program, held against every function of it."""

import copy
import importlib
import itertools
import unittest

from gatherall import both, careful, costs, games, houses, renaming, resting, signs, webs, writing
from gatherall.errors import (
    Against, Never, NoCosts, NoHouse, NoNames, NoNumber, NoPlace, NoPlaces, NoRow, NoSigns, NoText, Nothing, NoWeb,
)
from tests.things import Refusing

INTERFACE = {
    "webs": "steps rounds bar plan is_plan is_bar",
    "houses": "led reached gather fewest bar_of gather_at is_bar_of pairs_apart sorted_out joined",
    "games": "Game",
    "renaming": "renamed_web renamed_house reordered",
    "both": "both_row both_bar is_both_bar",
    "careful": "open_doors careful_led careful_reached careful_row careful_bar is_careful_bar",
    "signs": "can_be telling_row asking Seer",
    "costs": "cheapest chance",
    "resting": "rest_rounds middle",
    "writing": "web_text read_web house_text read_house game_text game_of",
}

WEB = (5, ((0, 1), (0, 4), (1, 2), (2, 3), (3, 4)))
SIDES = (4, ((0, 1), (1, 2), (2, 3)))
HOUSE = (3, ((1, 2, 0), (0, 1, 0)))
SWAPS = (4, ((1, 0, 2, 3), (0, 1, 3, 2)))
GAPS = (3, ((1, 0, None), (None, 1, 1)))
SMALL = (2, ((1, 0), (0, 1)))
TURN = (4, ((1, 2, 3, 0), (1, 0, 2, 3)))
SEVEN = (7, ((1, 2, 3, 4, 5, 6, 0),))
LAST = (0, 0, 0, 1)
ALL = (0, 1, 2)

WRONG_WEB = (2, ((1, 0),))
WRONG_HOUSE = (2, ((0, 2),))

# Each function, what is handed in, and of what is refused, in the order of the refusals: which one it is of what is
# handed in, a wrong one, and the refusal. Where there is no refusal of a thing, it is left out.
ON_WEB = [(0, WRONG_WEB, NoWeb), (1, (1, 0), NoPlaces)]
IN_HOUSE = [(0, WRONG_HOUSE, NoHouse), (1, (1, 0), NoPlaces)]
IN_TWO = [(0, WRONG_HOUSE, NoHouse), (1, WRONG_HOUSE, NoHouse), (2, (1, 0), NoPlaces), (3, (1, 0), NoPlaces)]
BY_SIGNS = [(0, WRONG_HOUSE, NoHouse), (1, (0, 4), NoSigns), (2, (1, 0), NoPlaces)]

CALLS = [
    (webs.steps, (WEB, (0, 1, 3)), ON_WEB),
    (webs.rounds, (WEB, (0, 1, 3)), ON_WEB),
    (webs.bar, (SIDES, (0, 1)), ON_WEB),
    (webs.plan, (WEB, (0, 1, 3)), ON_WEB),
    (webs.is_plan, (WEB, (0, 1), [(0, 4, 3), (1, 2, 3)]), ON_WEB),
    (webs.is_bar, (SIDES, (0, 1), (0, 1, 0, 1)), ON_WEB),
    (houses.led, (HOUSE, ALL, (1, 0, 0)), IN_HOUSE + [(2, (2,), NoRow)]),
    (houses.reached, (HOUSE, ALL), IN_HOUSE),
    (houses.gather, (HOUSE, ALL), IN_HOUSE),
    (houses.fewest, (SWAPS, (0, 1, 2)), IN_HOUSE),
    (houses.bar_of, (SWAPS, (0, 2)), IN_HOUSE),
    (houses.gather_at, (HOUSE, ALL, 1), IN_HOUSE + [(2, 3, NoPlace)]),
    (houses.is_bar_of, (SMALL, (0, 1), [(0, 1)]), IN_HOUSE),
    (houses.pairs_apart, (SWAPS,), IN_HOUSE[:1]),
    (houses.sorted_out, (SWAPS,), IN_HOUSE[:1]),
    (houses.joined, (HOUSE, (1, 0, 0)), [(0, WRONG_HOUSE, NoHouse), (1, (2,), NoRow)]),
    (games.Game, (HOUSE, ALL), IN_HOUSE),
    (renaming.renamed_web, (WEB, (1, 0, 2, 4, 3)), [(0, WRONG_WEB, NoWeb), (1, (0, 1), NoNames)]),
    (renaming.renamed_house, (HOUSE, (1, 0, 2)), [(0, WRONG_HOUSE, NoHouse), (1, (0, 1), NoNames)]),
    (renaming.reordered, (HOUSE, (1, 0)), [(0, WRONG_HOUSE, NoHouse), (1, (0, 0), NoNames)]),
    (both.both_row, (HOUSE, (2, ((0, 0), (0, 1))), ALL, (0, 1)), IN_TWO),
    (both.both_bar, (SMALL, HOUSE, (0, 1), ALL), IN_TWO),
    (both.is_both_bar, (SMALL, SMALL, (0, 1), (0, 1), [((0, 1), (0, 1))]), IN_TWO),
    (careful.open_doors, (GAPS, (0, 1)), IN_HOUSE),
    (careful.careful_led, (GAPS, (1, 2), (1, 0)), IN_HOUSE + [(2, (2,), NoRow)]),
    (careful.careful_reached, (GAPS, (0, 1)), IN_HOUSE),
    (careful.careful_row, (GAPS, (1, 2)), IN_HOUSE),
    (careful.careful_bar, (GAPS, (0, 1)), IN_HOUSE),
    (careful.is_careful_bar, (GAPS, (0, 1), [(0, 1)]), IN_HOUSE),
    (signs.can_be, (TURN, LAST, (0, 1, 2), (1, 0), (0, 0, 0)), BY_SIGNS + [(3, (2,), NoRow), (4, (4,), NoSigns)]),
    (signs.telling_row, (TURN, LAST, (0, 1, 2)), BY_SIGNS),
    (signs.asking, (TURN, LAST, (0, 1, 2)), BY_SIGNS),
    (signs.Seer, (TURN, LAST, (0, 1, 2), 0), BY_SIGNS + [(3, 4, NoSigns)]),
    (costs.cheapest, (HOUSE, (1, 0), ALL), [(0, WRONG_HOUSE, NoHouse), (2, (1, 0), NoPlaces), (1, (0, 100), NoCosts)]),
    (costs.chance, (HOUSE, ALL, 1), IN_HOUSE + [(2, 13, NoNumber)]),
    (resting.rest_rounds, (WEB, (0, 1, 3)), ON_WEB),
    (resting.middle, (WEB,), ON_WEB[:1]),
    (writing.web_text, (WEB,), ON_WEB[:1]),
    (writing.read_web, ("3: 0-1 1-2",), [(0, "3: 1-2 0-1", NoText)]),
    (writing.house_text, (HOUSE,), IN_HOUSE[:1]),
    (writing.read_house, ("3; 120 010",), [(0, "3; 120 013", NoText)]),
    (writing.game_of, ("3; 120 010 | 012 | 10",), [(0, "3; 120 010 | 012 | 2", NoText)]),
]

# These tell whether a thing, which is handed in last, is one: nothing is refused of it.
THINGS = ("is_plan", "is_bar", "is_bar_of", "is_both_bar", "is_careful_bar")


def shown(answer):
    """What an answer tells: of a game or a seer, what all of its methods tell."""
    if isinstance(answer, games.Game):
        return ("game", answer.places(), answer.row(), answer.left(), answer.best())
    if isinstance(answer, signs.Seer):
        return ("seer", answer.rooms(), answer.went(), answer.needed(), answer.best())
    return copy.deepcopy(answer)


def spoil(answer):
    """Changes all that can be changed of an answer."""
    if isinstance(answer, games.Game):
        answer.go(0)
    elif isinstance(answer, signs.Seer):
        answer.go(1, 0)
    elif isinstance(answer, list):
        answer.reverse()
        answer.append("spoiled")
        answer[0] = None


def made_anew(thing):
    """An equal thing, none of whose tuples and lists is the same."""
    if isinstance(thing, (tuple, list)):
        return type(thing)([made_anew(each) for each in thing])
    return thing


def with_booleans(thing):
    """All things that have True or False in one place, where this one has 1 or 0."""
    if isinstance(thing, (tuple, list)):
        for k in range(len(thing)):
            for changed in with_booleans(thing[k]):
                yield type(thing)(list(thing[:k]) + [changed] + list(thing[k + 1:]))
    elif thing in (0, 1):
        yield bool(thing)


class TestInterface(unittest.TestCase):
    def test_all_names_are_there(self):
        for name, listed in INTERFACE.items():
            module = importlib.import_module("gatherall." + name)
            for each in listed.split():
                self.assertTrue(callable(getattr(module, each)), each)
                self.assertEqual(getattr(module, each).__module__, "gatherall." + name)

    def test_all_are_called_here(self):
        called = {ask.__name__ for ask, handed_in, refusals in CALLS}
        self.assertEqual(called | {"game_text"}, set(" ".join(INTERFACE.values()).split()))


class TestAskedAgain(unittest.TestCase):
    def test_they_tell_the_same(self):
        for ask, handed_in, refusals in CALLS:
            with self.subTest(ask.__name__):
                told = shown(ask(*handed_in))
                for turn in range(3):
                    self.assertEqual(shown(ask(*handed_in)), told)

    def test_they_tell_the_same_where_lists_that_they_told_were_changed(self):
        for ask, handed_in, refusals in CALLS:
            with self.subTest(ask.__name__):
                answer = ask(*handed_in)
                told = shown(answer)
                for turn in range(3):
                    spoil(answer)
                    answer = ask(*handed_in)
                    self.assertEqual(shown(answer), told)

    def test_lists_are_new_ones(self):
        lists = 0
        for ask, handed_in, refusals in CALLS:
            one = ask(*handed_in)
            if isinstance(one, list):
                lists += 1
                self.assertIsNot(ask(*handed_in), one, ask.__name__)
                self.assertEqual([each for each in handed_in if each is one], [])
        self.assertGreater(lists, 10)

    def test_all_of_them_one_behind_the_other(self):
        told = [shown(ask(*handed_in)) for ask, handed_in, refusals in CALLS]
        for ask, handed_in, refusals in CALLS:
            spoil(ask(*handed_in))
        again = [shown(ask(*handed_in)) for ask, handed_in, refusals in reversed(CALLS)]
        self.assertEqual(again[::-1], told)

    def test_equal_things_give_equal_answers(self):
        for ask, handed_in, refusals in CALLS:
            self.assertEqual(shown(ask(*made_anew(handed_in))), shown(ask(*handed_in)), ask.__name__)

    def test_refusals_in_between_change_nothing(self):
        for ask, handed_in, refusals in CALLS:
            told = shown(ask(*handed_in))
            for place, wrong, error in refusals:
                with self.assertRaises(error):
                    ask(*handed_in[:place], wrong, *handed_in[place + 1:])
                self.assertEqual(shown(ask(*handed_in)), told, ask.__name__)

    def test_nothing_that_is_handed_in_is_changed(self):
        for ask, handed_in, refusals in CALLS:
            before = copy.deepcopy(handed_in)
            spoil(ask(*handed_in))
            self.assertEqual(handed_in, before, ask.__name__)

    def test_nothing_that_is_handed_in_is_kept(self):
        for ask, handed_in, refusals in CALLS:
            if ask.__name__ in THINGS:
                thing = made_anew(handed_in[-1])
                self.assertIs(ask(*handed_in[:-1], thing), True)
                if isinstance(thing, list):
                    thing.append(None)
                    self.assertIs(ask(*handed_in[:-1], thing), False)
                    self.assertIs(ask(*handed_in), True)


class TestGamesAndSeers(unittest.TestCase):
    def game(self):
        game = games.Game(HOUSE, ALL)
        told = [shown(game)]
        for door in (1, 0, 0):
            told += [game.go(door), shown(game), writing.game_text(game)]
        told += [game.undo(), shown(game), game.go(1), shown(game), writing.game_text(game)]
        read = writing.game_of(writing.game_text(game))
        return told + [read.undo(), shown(read), shown(game)]

    def seer(self):
        seer = signs.Seer(TURN, LAST, (0, 1, 2, 3), 0)
        told = [shown(seer)]
        for door, sign in ((1, 0), (0, 0), (0, 0)):
            told += [seer.go(door, sign), shown(seer)]
        return told + [seer.undo(), shown(seer), seer.go(0, 1), shown(seer)]

    def test_behind_the_same_calls_they_tell_the_same(self):
        game = self.game()
        seer = self.seer()
        for turn in range(3):
            self.assertEqual(self.game(), game)
            self.assertEqual(self.seer(), seer)

    def test_lists_that_a_seer_told_are_changed(self):
        seer = signs.Seer(TURN, LAST, (0, 1, 2, 3), 0)
        for door, sign in ((1, 0), (0, 0)):
            seer.go(door, sign)
            told = shown(seer)
            spoil(seer.rooms())
            spoil(seer.went())
            self.assertEqual(shown(seer), told)
        self.assertEqual([seer.undo(), seer.undo()], [(0, 0), (1, 0)])

    def test_several_at_once(self):
        made = []
        for turn in range(2):
            made += [games.Game(HOUSE, ALL), signs.Seer(TURN, LAST, ALL, 0)]
        before = [shown(each) for each in made]
        spoil(made[0])
        spoil(made[1])
        self.assertEqual([shown(each) for each in made[2:]], before[2:])
        made[0].undo()
        made[1].undo()
        self.assertEqual([shown(each) for each in made], before)


class TestRefusals(Refusing):
    def test_the_first_named_is_told(self):
        for ask, handed_in, refusals in CALLS:
            for chosen in itertools.product([False, True], repeat=len(refusals)):
                asked = list(handed_in)
                errors = []
                for taken, (place, wrong, error) in zip(chosen, refusals):
                    if taken:
                        asked[place] = wrong
                        errors.append(error)
                if errors:
                    with self.subTest(ask=ask.__name__, wrong=asked):
                        self.refused(errors[0], ask, *asked)

    def test_refusals_of_what_fits_not_together(self):
        self.refused(Never, webs.plan, SIDES, (0, 1))
        self.refused(NoPlaces, webs.plan, SIDES, (1, 0))
        self.refused(NoRow, houses.joined, (1, ((0,),) * 3), (0,))
        self.refused(NoRow, careful.careful_led, GAPS, (0, 1), (1,))
        for ask in (both.both_row, both.both_bar):
            self.refused(NoHouse, ask, HOUSE, TURN[:1] + (TURN[1][:1],), (1, 0), ())
            self.refused(NoHouse, ask, SEVEN, SEVEN, (1, 0), ())
        for ask in (signs.telling_row, signs.asking):
            self.refused(NoHouse, ask, SEVEN, (0,) * 7, (0, 1))
            self.refused(NoPlaces, ask, SEVEN, (0,) * 7, (1, 0))
        self.refused(NoHouse, signs.Seer, SEVEN, (0,) * 7, (0, 1), 4)
        self.refused(Against, signs.Seer, TURN, LAST, (0, 1), 1)
        self.refused(Nothing, games.Game(HOUSE, ALL).undo)
        self.refused(Nothing, signs.Seer(TURN, LAST, ALL, 0).undo)

    def test_true_and_false_are_no_numbers(self):
        tried = 0
        for ask, handed_in, refusals in CALLS:
            for place, wrong, error in refusals:
                for changed in with_booleans(handed_in[place]):
                    tried += 1
                    with self.subTest(ask=ask.__name__, wrong=changed):
                        self.refused(error, ask, *handed_in[:place], changed, *handed_in[place + 1:])
        self.assertGreater(tried, 200)

    def test_true_and_false_are_no_numbers_in_things(self):
        for ask, handed_in, refusals in CALLS:
            if ask.__name__ in THINGS:
                self.assertIs(ask(*handed_in), True)
                changed = list(with_booleans(handed_in[-1]))
                self.assertNotEqual(changed, [])
                for thing in changed:
                    with self.subTest(ask=ask.__name__, wrong=thing):
                        self.assertIs(ask(*handed_in[:-1], thing), False)

    def test_true_and_false_are_no_doors_and_signs(self):
        game = games.Game(HOUSE, ALL)
        seer = signs.Seer(TURN, LAST, ALL, 0)
        for each in (True, False):
            self.refused(NoRow, game.go, each)
            self.refused(NoRow, seer.go, each, 0)
            self.refused(NoSigns, seer.go, 1, each)
        self.assertEqual((game.row(), seer.went()), ((), []))


if __name__ == "__main__":
    unittest.main()
