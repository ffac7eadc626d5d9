"""Counters on a web that may stay where they are."""

from gatherall.checks import need_web
from gatherall.webs import need_web_and_places, ways_to_places


# Who is there early may stay: so as many rounds are needed as the farthest has steps.
def rest_rounds(web, places):
    need_web_and_places(web, places)
    ways = ways_to_places(web, places)
    return min([(max(ways[place]), place) for place in ways], default=None)


def middle(web):
    need_web(web)
    ways = ways_to_places(web, tuple(range(web[0])))
    least = min([max(ways[place]) for place in ways], default=0)
    return [place for place in ways if max(ways[place]) == least]
