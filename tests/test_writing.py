import inspect
import itertools
import random
import re
import unittest

from gatherall import writing as module
from gatherall.errors import NoHouse, NoText, Nothing, NoWeb
from gatherall.games import Game
from gatherall.writing import game_of, game_text, house_text, read_house, read_web, web_text
from tests.things import ODD, WRONG_HOUSES, WRONG_WEBS, Refusing, all_webs, path, ring, some_house, some_web, subsets

ONE = (1, ((0,),))
THREE = (3, ((1, 2, 0), (0, 1, 0)))
EIGHT = (8, ((1, 2, 3, 4, 5, 6, 7, 0), (0, 0, 2, 3, 4, 5, 6, 7), (7, 6, 5, 4, 3, 2, 1, 0)))

WEB_TEXTS = {
    "1:": (1, ()),
    "8:": (8, ()),
    "2: 0-1": (2, ((0, 1),)),
    "3: 0-1 1-2": (3, ((0, 1), (1, 2))),
    "4: 0-1 0-3 1-2 2-3": ring(4),
    "8: 0-7 1-2 6-7": (8, ((0, 7), (1, 2), (6, 7))),
}

HOUSE_TEXTS = {
    "1; 0": ONE,
    "1; 0 0 0": (1, ((0,), (0,), (0,))),
    "2; 10": (2, ((1, 0),)),
    "3; 120 010": THREE,
    "8; 12345670 00234567 76543210": EIGHT,
}

# (house, places, row) of each game.
GAME_TEXTS = {
    "1; 0 | 0 | ": (ONE, (0,), ()),
    "1; 0 | 0 | 000": (ONE, (0,), (0, 0, 0)),
    "3; 120 010 | 012 | ": (THREE, (0, 1, 2), ()),
    "3; 120 010 | 012 | 1001": (THREE, (0, 1, 2), (1, 0, 0, 1)),
    "3; 120 010 | 02 | 1": (THREE, (0, 2), (1,)),
    "8; 12345670 00234567 76543210 | 01234567 | 0120": (EIGHT, tuple(range(8)), (0, 1, 2, 0)),
    "8; 12345670 00234567 76543210 | 7 | 2": (EIGHT, (7,), (2,)),
}

SIGNS = "0123456789 |:;-,.x\n\t\x00\u0661\u00b2\uff11"


def figures(text):
    return tuple(int(sign) for sign in text)


def slow_read_web(text):
    """The web that a text writes, or None: by a pattern, and what [2] asks of a web."""
    if not re.fullmatch(r"[1-8]:( [0-7]-[0-7])*", text):
        return None
    ties = tuple((int(tie[0]), int(tie[2])) for tie in text[2:].split())
    if any(not lesser < greater < int(text[0]) for lesser, greater in ties) or list(ties) != sorted(set(ties)):
        return None
    return (int(text[0]), ties)


def slow_read_house(text):
    if not re.fullmatch(r"[1-8];( [0-7]+){1,3}", text):
        return None
    doors = tuple(figures(door) for door in text[2:].split())
    many = int(text[0])
    return (many, doors) if all(len(door) == many and max(door) < many for door in doors) else None


def slow_read_game(text):
    found = re.fullmatch(r"([^|]*) \| ([0-7]+) \| ([0-2]*)", text)
    house = slow_read_house(found[1]) if found else None
    if house is None:
        return None
    places = figures(found[2])
    row = figures(found[3])
    if list(places) != sorted(set(places)) or max(places) >= house[0] or max(row, default=0) >= len(house[1]):
        return None
    return (house, places, row)


def game_along(house, places, row):
    game = Game(house, places)
    for door in row:
        game.go(door)
    return game


def all_told(game):
    return (game.places(), game.row(), game.left(), game.best())


def told_of_all_behind(game):
    """What a game tells now, and behind each door that is taken back, to the last."""
    told = [all_told(game)]
    while game.row():
        told.append((game.undo(),) + all_told(game))
    return told


def changed_texts(text):
    """All texts with a sign left out, put in, exchanged, or two neighbours that changed places; and some more."""
    for k in range(len(text)):
        yield text[:k] + text[k + 1:]
        yield text[:k] + text[k + 1:k + 2] + text[k] + text[k + 2:]
        for sign in SIGNS:
            yield text[:k] + sign + text[k + 1:]
    for k in range(len(text) + 1):
        for sign in SIGNS:
            yield text[:k] + sign + text[k:]
    yield from [text + text, text + " " + text, text.strip() + "\r\n", "\ufeff" + text, text.replace(" ", "  ")]


class TestWebs(Refusing):
    def test_by_hand(self):
        for text, web in WEB_TEXTS.items():
            self.assertEqual(web_text(web), text)
            self.assertEqual(read_web(text), web)

    def test_each_web_there_and_back(self):
        texts = set()
        for many in (1, 2, 3, 4):
            for web in all_webs(many):
                text = web_text(web)
                texts.add(text)
                self.assertEqual(slow_read_web(text), web)
                self.assertEqual(read_web(text), web)
        self.assertEqual(len(texts), 1 + 2 + 8 + 64)
        chance = random.Random(101)
        for turn in range(100):
            web = some_web(chance, chance.randrange(5, 9), chance.random())
            self.assertEqual(slow_read_web(web_text(web)), web)
            self.assertEqual(read_web(web_text(web)), web)

    def test_all_short_texts(self):
        for many in range(4):
            for signs in itertools.product("0189:;- ", repeat=many):
                self.reads_as("".join(signs))
        for signs in itertools.product("012", repeat=3):
            self.reads_as("%s: %s-%s" % signs)
            self.reads_as("3: 0-1 %s-%s" % signs[:2])

    def test_changed_texts(self):
        for text in WEB_TEXTS:
            for changed in changed_texts(text):
                self.reads_as(changed)

    def reads_as(self, text):
        web = slow_read_web(text)
        if web is None:
            self.refused(NoText, read_web, text)
        else:
            self.assertEqual(read_web(text), web)

    def test_no_text(self):
        wrong = [
            "0:", "9:", "9: 0-1", "10:", "01:", "+1:", "-1:", " 1:", "1: ", "1:\n", "1", ":", "2:0-1", "2 : 0-1",
            "2: 0 - 1", "2: 0-1 ", "2:  0-1", "2: 1-0", "2: 0-0", "2: 0-2", "2: 0-1 0-1", "3: 1-2 0-1", "2: 01",
            "2: 0--1", "2: 0-1-", "2: -0-1", "2: 0-01", "2; 0-1", "2: 0-1,", "2: 0_1", "2:\t0-1", "2:\u00a00-1",
            "2: 0-\u0661", "\u0662: 0-1", "\u00b2:", "2: (0, 1)", "(2, ((0, 1),))", "3; 120 010", "2: 0-1\x00",
            "8: 7-8", "1: -", "1: 0", "2: 0", "2: 0-", "1:" + " " * 1000, "2: 0-1" * 1000, "2: " + "0" * 5000,
        ]
        others = list(HOUSE_TEXTS) + [0, 2, (2, ((0, 1),)), b"1:", ["1:"], ("1:",)]
        for number, text in enumerate(wrong + ODD + others):
            with self.subTest(number):
                self.refused(NoText, read_web, text)

    def test_no_web(self):
        for number, web in enumerate(WRONG_WEBS + ["1:", THREE]):
            with self.subTest(number):
                self.refused(NoWeb, web_text, web)


class TestHouses(Refusing):
    def test_by_hand(self):
        for text, house in HOUSE_TEXTS.items():
            self.assertEqual(house_text(house), text)
            self.assertEqual(read_house(text), house)

    def test_each_house_there_and_back(self):
        doors = list(itertools.product(range(2), repeat=2))
        for many in (1, 2, 3):
            for chosen in itertools.product(doors, repeat=many):
                self.assertEqual(slow_read_house(house_text((2, chosen))), (2, chosen))
                self.assertEqual(read_house(house_text((2, chosen))), (2, chosen))
        chance = random.Random(102)
        for turn in range(200):
            house = some_house(chance, chance.randrange(1, 9), chance.choice((1, 2, 3)))
            self.assertEqual(slow_read_house(house_text(house)), house)
            self.assertEqual(read_house(house_text(house)), house)

    def test_all_short_texts(self):
        for many in range(6):
            for signs in itertools.product("012; ", repeat=many):
                self.reads_as("".join(signs))

    def test_changed_texts(self):
        for text in HOUSE_TEXTS:
            for changed in changed_texts(text):
                self.reads_as(changed)

    def reads_as(self, text):
        house = slow_read_house(text)
        if house is None:
            self.refused(NoText, read_house, text)
        else:
            self.assertEqual(read_house(text), house)

    def test_no_text(self):
        wrong = [
            "0;", "1;", "8;", "0; ", "1; ", "1;  ", "1;0", "1: 0", "1; 1", "1; 00", "01; 0", "9; 012345678", " 1; 0",
            "1; 0 ", "1;  0", "1; 0\n", "1; 0 0 0 0", "2; 0 1", "2; 01 0", "2; 02", "2; 0-1", "2; 0,1", "2; 01, 10",
            "2;\t01", "2; 0\u0661", "\u0662; 01", "2; 01\x00", "2; -1", "2; +1", "2; 0 1 ", "2; 01 | ", "2; 01|",
            "(1, ((0,),))", "1; N", "2; 0N", "1; " + "0" * 5000, "1; 0" + " 0" * 1000,
        ]
        others = list(WEB_TEXTS) + list(GAME_TEXTS) + [1, (1, ((0,),)), b"1; 0", ["1; 0"], ("1; 0",)]
        for number, text in enumerate(wrong + ODD + others):
            with self.subTest(number):
                self.refused(NoText, read_house, text)

    def test_no_house(self):
        for number, house in enumerate(WRONG_HOUSES + ["1; 0", path(3), (2, ((None, 1),))]):
            with self.subTest(number):
                self.refused(NoHouse, house_text, house)


class TestGames(Refusing):
    def test_by_hand(self):
        for text, handed_in in GAME_TEXTS.items():
            self.assertEqual(game_text(game_along(*handed_in)), text)
            game = game_of(text)
            self.assertIs(type(game), Game)
            self.assertEqual(game_text(game), text)
            self.assertEqual(told_of_all_behind(game), told_of_all_behind(game_along(*handed_in)))

    def test_the_places_at_first_are_written(self):
        game = Game(THREE, (0, 1, 2))
        self.assertEqual(game_text(game), "3; 120 010 | 012 | ")
        game.go(1)
        self.assertEqual(game.places(), (0, 1))
        self.assertEqual(game_text(game), "3; 120 010 | 012 | 1")
        game.go(0)
        self.assertEqual(game_text(game), "3; 120 010 | 012 | 10")
        game.undo()
        self.assertEqual(game_text(game), "3; 120 010 | 012 | 1")
        game.undo()
        self.assertEqual(game_text(game), "3; 120 010 | 012 | ")

    def test_writing_changes_nothing(self):
        game = game_along(THREE, (0, 1, 2), (1, 0))
        before = all_told(game)
        for turn in range(3):
            self.assertEqual(game_text(game), "3; 120 010 | 012 | 10")
            self.assertEqual(all_told(game), before)

    def test_a_game_that_was_read_goes_on_and_back(self):
        chance = random.Random(103)
        for turn in range(60):
            house = some_house(chance, chance.randrange(1, 7), chance.choice((1, 2, 3)))
            doors = len(house[1])
            places = chance.choice(subsets(house[0]))
            written = game_along(house, places, [chance.randrange(doors) for step in range(chance.randrange(6))])
            read = game_of(game_text(written))
            for step in range(10):
                self.assertEqual(all_told(read), all_told(written))
                if written.row() and chance.random() < 0.5:
                    self.assertEqual(read.undo(), written.undo())
                else:
                    door = chance.randrange(doors)
                    self.assertEqual(read.go(door), written.go(door))
                self.assertEqual(game_text(read), game_text(written))
            self.assertEqual(told_of_all_behind(read), told_of_all_behind(written))
            self.refused(Nothing, read.undo)

    def test_it_goes_by_itself(self):
        written = game_along(THREE, (0, 1, 2), (1, 0))
        text = game_text(written)
        one = game_of(text)
        other = game_of(text)
        before = all_told(written)
        one.go(0)
        self.assertEqual((all_told(written), all_told(other)), (before, before))
        one.undo()
        one.undo()
        one.undo()
        self.assertEqual((all_told(written), all_told(other)), (before, before))
        self.refused(Nothing, one.undo)
        written.go(1)
        written.undo()
        written.undo()
        self.assertEqual(all_told(other), before)
        self.assertEqual(all_told(one), all_told(Game(THREE, (0, 1, 2))))
        self.assertEqual(all_told(game_of(text)), before)

    def test_more_doors_than_a_row_may_have(self):
        for many in (59, 60, 61, 150):
            game = game_along(THREE, (0, 1, 2), (0, 1) * many)
            text = game_text(game)
            self.assertEqual(text, "3; 120 010 | 012 | " + "01" * many)
            self.assertEqual(all_told(game_of(text)), all_told(game))
            self.assertEqual(game_text(game_of(text)), text)

    def test_changed_texts(self):
        for text in GAME_TEXTS:
            for changed in changed_texts(text):
                self.reads_as(changed)

    def reads_as(self, text):
        handed_in = slow_read_game(text)
        if handed_in is None:
            self.refused(NoText, game_of, text)
        else:
            game = game_of(text)
            self.assertEqual(game_text(game), text)
            self.assertEqual((game.row(), game.places()), (handed_in[2], game_along(*handed_in).places()))

    def test_no_text(self):
        wrong = [
            "|", " | ", " |  | ", "1; 0", "1; 0 | 0", "1; 0 | 0 |", "1; 0 | 0 |0", "1; 0 | 0| 0", "1; 0|0|0",
            "1; 0 |  | ", "1; 0 |  | 0", "1; 0 | 1 | ", "1; 0 | 00 | ", "1; 0 | 0 | 1", "1; 0 | 0 |  ",
            "1; 0 | 0 | 0 ", "1; 0 | 0 |  0", "1; 0 | 0 | 0\n", "1; 0 | 0 | 0 | ", "1; 0 | 0 | 0 | 0", " | 0 | 0",
            "1; 1 | 0 | 0", "1: | 0 | 0", "1; | 0 | 0", "3; 120 010 | 10 | 1", "3; 120 010 | 11 | 1",
            "3; 120 010 | 03 | 1", "3; 120 010 | 0-1 | 1", "3; 120 010 | 0 1 | 1", "3; 120 010 | 01 | 2",
            "3; 120 010 | 01 | 1,0", "3; 120 010 | 01 | 1 0", "3; 120 010 | 01 | \u0661", "3; 120 010 | 0\u0661 | 1",
            "3; 120 010  | 01 | 1", "3; 120 010 || 01 | 1", "3; 120 010 | 01 | -1", "3; 120 010 | 01 | x",
            "3; 120 010 \n| 01 | 1", "9; 012345678 | 0 | 0", "3; 12N 010 | 0 | 0", "1; 0 0 0 0 | 0 | 0",
        ]
        others = list(HOUSE_TEXTS) + list(WEB_TEXTS)
        others += [1, b"1; 0 | 0 | ", ["1; 0 | 0 | "], Game(ONE, (0,)), (ONE, (0,), ())]
        for number, text in enumerate(wrong + ODD + others):
            with self.subTest(number):
                self.refused(NoText, game_of, text)


class TestInterface(unittest.TestCase):
    def test_arguments(self):
        wanted = {
            "web_text": "web", "read_web": "text", "house_text": "house", "read_house": "text", "game_text": "game",
            "game_of": "text",
        }
        for name, argument in wanted.items():
            self.assertEqual(list(inspect.signature(getattr(module, name)).parameters), [argument])

    def test_kinds(self):
        texts = (web_text(path(3)), house_text(THREE), game_text(Game(ONE, (0,))))
        self.assertEqual({type(each) for each in texts}, {str})
        web = read_web("3: 0-1 1-2")
        house = read_house("3; 120 010")
        tuples = (web, web[1], web[1][0], house, house[1], house[1][0])
        self.assertEqual({type(each) for each in tuples}, {tuple})
        self.assertEqual({type(each) for each in (web[0], web[1][0][1], house[0], house[1][0][2])}, {int})


if __name__ == "__main__":
    unittest.main()
