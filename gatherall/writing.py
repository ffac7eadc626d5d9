"""Webs, houses and games written as texts, and read."""

from gatherall.checks import are_numbers, are_places, is_house, is_web, need_house, need_web
from gatherall.errors import NoText
from gatherall.games import Game

FIGURES = "012345678"


def in_figures(numbers):
    return "".join([str(number) for number in numbers])


# What is no figure is read as -1, which stands in no web, house or game.
def from_figures(text):
    return tuple([FIGURES.find(sign) for sign in text])


def need_text(text):
    if not isinstance(text, str):
        raise NoText("this is no text")


def web_text(web):
    need_web(web)
    return " ".join([str(web[0]) + ":"] + [str(tie[0]) + "-" + str(tie[1]) for tie in web[1]])


def house_text(house):
    need_house(house)
    return " ".join([str(house[0]) + ";"] + [in_figures(door) for door in house[1]])


# Signs between the figures are not looked at in reading a web or a house: what was
# read is written again, and only the very same text is taken.
def read_web(text):
    need_text(text)
    ties = [from_figures(word.replace("-", "")) for word in text.split(" ")[1:]]
    web = (FIGURES.find(text[:1]), tuple(ties))
    if not is_web(web) or web_text(web) != text:
        raise NoText("this text writes no web")
    return web


def read_house(text):
    need_text(text)
    house = (FIGURES.find(text[:1]), tuple([from_figures(word) for word in text.split(" ")[1:]]))
    if not is_house(house) or house_text(house) != text:
        raise NoText("this text writes no house")
    return house


def game_text(game):
    return " | ".join([house_text(game.house), in_figures(game.standings[0]), in_figures(game.row())])


def game_of(text):
    need_text(text)
    parts = text.split(" | ")
    if len(parts) != 3:
        raise NoText("this text has not the three parts of a game")
    house = read_house(parts[0])
    places = from_figures(parts[1])
    row = from_figures(parts[2])
    # A game goes on as long as one likes: so its row may be longer than other rows.
    if not are_places(places, house[0]) or not are_numbers(row, 0, len(house[1]) - 1):
        raise NoText("this text writes no game")
    game = Game(house, places)
    for door in row:
        game.go(door)
    return game
