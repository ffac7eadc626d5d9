import unittest

from gatherall import webs
from gatherall.errors import NoPlaces, NoWeb
from tests.things import WRONG_WEBS, Refusing, path, ring, wrong_places

ASKED = [
    lambda web, places: webs.steps(web, places),
    lambda web, places: webs.rounds(web, places),
    lambda web, places: webs.bar(web, places),
    lambda web, places: webs.plan(web, places),
    lambda web, places: webs.is_plan(web, places, [(0,)]),
    lambda web, places: webs.is_plan(web, places, None),
    lambda web, places: webs.is_bar(web, places, (0,)),
    lambda web, places: webs.is_bar(web, places, None),
]


class TestRefused(Refusing):
    def test_no_web(self):
        for number, ask in enumerate(ASKED):
            for place, web in enumerate(WRONG_WEBS):
                with self.subTest(asked=number, wrong=place):
                    self.refused(NoWeb, ask, web, (0,))

    def test_no_places(self):
        for web in [(1, ()), (2, ()), path(2), ring(3), ring(8)]:
            for number, ask in enumerate(ASKED):
                for place, places in enumerate(wrong_places(web[0])):
                    with self.subTest(many=web[0], asked=number, wrong=place):
                        self.refused(NoPlaces, ask, web, places)

    def test_no_web_is_named_first(self):
        for ask in ASKED:
            for web in (None, (2, ((1, 0),)), (9, ()), (True, ())):
                for places in (None, (), (0, 0), (99,), [0], (True,)):
                    self.refused(NoWeb, ask, web, places)

    def test_no_places_is_named_ahead_of_never(self):
        self.refused(NoPlaces, webs.plan, (2, ()), (1, 0))
        self.refused(NoPlaces, webs.plan, (2, ()), (0, 1, 2))

    def test_what_was_refused_is_as_before(self):
        web = [2, [[0, 1]]]
        places = [1, 0]
        for ask in ASKED:
            self.refused(NoWeb, ask, web, places)
            self.refused(NoPlaces, ask, path(2), places)
        self.assertEqual((web, places), ([2, [[0, 1]]], [1, 0]))

    def test_the_most_places_and_ties(self):
        whole = (8, tuple((one, other) for one in range(8) for other in range(one + 1, 8)))
        self.assertEqual(webs.steps(whole, tuple(range(8))), (7, 0))
        self.assertEqual(webs.rounds(whole, tuple(range(8))), (2, 0))
        self.refused(NoWeb, webs.steps, (9, ()), (0,))
        self.refused(NoWeb, webs.steps, (0, ()), (0,))


if __name__ == "__main__":
    unittest.main()
