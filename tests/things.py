"""Wrong things to hand in, and slow, plain searches to hold the program's answers against."""

import itertools
import unittest

# Of no use anywhere, whatever is asked for.
ODD = [
    None, True, False, -1, 9, 10 ** 5000, 1j, "", "0", "01", "web", b"", b"\x00", [], [0], [(0, 1)], {}, {0: 1},
    {(0, 1): True}, set(), {0}, frozenset(), frozenset({(0, 1)}), range(2), object(), object, int, len, ValueError("no"),
    NotImplemented, ..., (None,), ("0",), ((),), ([],), ({},), (True,), (False,), (0, True), (False, 1), (-1,),
    (0, None), (0, "1"), (1, 0), (1, 1), (0, 10 ** 5000),
]

# Wrong webs and wrong houses alike.
WRONG_PAIRS = ODD + [
    (), 0, 1, (1,), (1, None), (1, 0), (1, []), (1, ""), (1, {}), (1, frozenset()), [1, ()], (1, (), ()), ((), 1),
    (0, ()), (-1, ()), (9, ()), ("1", ()), (None, ()), (True, ()), ((1,), ()), ([1], ()), (10 ** 5000, ()),
    (2, (0, 1)), (2, 0), (2, (None,)), (2, ("01",)), (2, (0,)),
]

WRONG_WEBS = WRONG_PAIRS + [
    (2, [(0, 1)]), [2, ((0, 1),)], (2, ([0, 1],)), (2, ({0: 1},)), (2, ({0, 1},)), (2, ((0,),)), (2, ((),)),
    (3, ((0, 1, 2),)), (2, ((1, 0),)), (2, ((0, 0),)), (2, ((1, 1),)), (2, ((0, 2),)), (2, ((-1, 0),)),
    (2, ((-1, 1),)), (2, ((0, 1), (0, 1))), (3, ((1, 2), (0, 1))), (3, ((0, 2), (0, 1))), (3, ((0, 1), (1, 2), (0, 2))),
    (2, ((0, True),)), (2, ((False, 1),)), (2, ((False, True),)), (3, ((True, 2),)), (2, ((0, None),)),
    (2, ((0, "1"),)), (2, ((0, (1,)),)), (2, ((0, 1), None)), (2, ((0, 1), 5)), (1, ((0, 1),)), (9, ((0, 1),)),
    (2, ((0, 10 ** 5000),)), (True, ()), (2, (((0,), (1,)),)), (2, ((0, 1),), ()), (8, ((7, 8),)),
]

WRONG_HOUSES = WRONG_PAIRS + [
    (1, ()), (8, ()), (2, [(0, 1)]), [2, ((0, 1),)], (2, ([0, 1],)), (2, ({0: 1},)), (2, ((0,),)), (2, ((),)),
    (2, ((0, 1, 1),)), (2, ((0, 2),)), (2, ((0, -1),)), (2, ((0, True),)), (2, ((False, 1),)), (1, ((False,),)),
    (2, ((0, None),)), (2, ((0, "1"),)), (2, ((0, (1,)),)), (2, ((0, 1), None)), (2, ((0, 1), (0,))),
    (2, ((0, 1), (0, 2))), (2, ((0, 1), (1, 1), (0, 0), (1, 0))), (1, ((0,), (0,), (0,), (0,))), (True, ((0,),)),
    (0, ((),)), (9, (tuple(range(9)),)), (2, ((0, 10 ** 5000),)), (2, ((0, 1),), ()), (3, ((0, 1),)),
    (1, ((0,), [0])), (8, (tuple(range(8)), tuple(range(1, 9)))),
]

# Houses with None within a door are no houses, but broken ones.
WRONG_BROKEN_HOUSES = [thing for thing in WRONG_HOUSES if thing != (2, ((0, None),))] + [
    (2, ((None,),)), (1, ((None, None),)), (2, ((None, 2),)), (2, ((None, -1),)), (2, ((None, True),)),
    (2, ((False, None),)), (2, ((None, "1"),)), (2, ([None, 0],)), (2, ((None, None), None)), (2, ((None, []),)),
    (2, (None, (None, None))), (3, ((None, None),)), (1, ((None,), (None,), (None,), (None,))), (None, ((None,),)),
    (9, ((None,) * 9,)), (True, ((None,),)), [1, ((None,),)], (1, [(None,)]), (2, ((None, (None,)),)), (2, ((0, ()),)),
]


class Refusing(unittest.TestCase):
    def refused(self, wanted, ask, *handed_in):
        try:
            told = ask(*handed_in)
        except Exception as error:
            self.assertIs(type(error), wanted)
        else:
            self.fail(f"not refused: {told}")


def wrong_places(many):
    out_of_range = [(many,), (0, many), (-1, 0), (-many,), (many + 1,), tuple(range(many + 1))]
    twice = [(0, 0), (many - 1, many - 1), tuple(range(many)) + (many - 1,)]
    other = [(), 0, 1, ((0,),), ((0, 0),), (0, (many - 1,)), list(range(many)), dict.fromkeys(range(many))]
    return ODD + out_of_range + twice + other


def wrong_rows(doors):
    out_of_range = [(doors,), (0, doors), (-1,), (0, -1), (-doors,), (0,) * 59 + (doors,)]
    too_long = [(0,) * 61, (0,) * 100, (doors - 1,) * 61]
    other = [0, 1, ((),), ((0,),), [0] * 3, {0: 0}, "00", (0, None), (False,), (0, False), (0,) * 59 + (False,)]
    return [thing for thing in ODD if thing not in [(1, 0), (1, 1)]] + out_of_range + too_long + other


def wrong_names(many):
    whole = tuple(range(many))
    lengths = [(), whole[1:], whole[:-1], whole + (many,), whole + (0,), whole + whole]
    out_of_range = [whole[:-1] + (many,), tuple(range(1, many + 1)), (-1,) + whole[1:], (-1,) + whole[:-1]]
    twice = [(0,) * many, (many - 1,) * many, whole[:-1] + (0,), whole[1:] + (many - 1,)]
    booleans = [(False,) + whole[1:], whole[1:] + (False,), (0, True) + whole[2:], (True,) + whole[:1] + whole[2:]]
    kinds = [
        0, many, list(whole), list(whole[::-1]), dict.fromkeys(whole), set(whole), range(many), (whole,), (None,) * many,
        "".join(map(str, whole)), tuple(map(str, whole)), whole[:-1] + (None,), whole[:-1] + ((many - 1,),),
        whole[:-1] + ([],), frozenset(whole),
    ]
    wrong = ODD + lengths + out_of_range + twice + booleans + kinds
    right = list(itertools.permutations(whole))
    # (False, 1) equals (0, 1): so that it stays among the wrong ones, kinds are looked at too.
    return [thing for thing in wrong if thing not in right or {type(each) for each in thing} != {int}]


def wrong_signs(many):
    """What are no signs of so many rooms, nor signs that were seen, so many."""
    lengths = [(), (0,) * (many - 1), (0,) * (many + 1), (3,) * (many + 8)]
    out_of_range = [(0,) * (many - 1) + (4,), (4,) + (0,) * (many - 1), (0,) * (many - 1) + (-1,), (-1,) * many]
    booleans = [(False,) * many, (True,) * many, (0,) * (many - 1) + (False,), (True,) + (0,) * (many - 1)]
    kinds = [
        0, 1, [0] * many, "0" * many, ("0",) * many, (None,) * many, ((0,) * many,), {0: 0}, range(many),
        dict.fromkeys(range(many)), (0,) * (many - 1) + (None,), (0,) * (many - 1) + ((0,),), ((),) + (0,) * (many - 1),
        (0,) * (many - 1) + ("0",), (10 ** 5000,) * many,
    ]
    right = [(1, 0), (1, 1)] if many == 2 else []
    return [thing for thing in ODD if thing not in right] + lengths + out_of_range + booleans + kinds


def some_signs(chance, many, different):
    return tuple(chance.randrange(different) for room in range(many))


def subsets(many):
    return [each for size in range(1, many + 1) for each in itertools.combinations(range(many), size)]


def all_webs(many):
    ties = list(itertools.combinations(range(many), 2))
    for chosen in itertools.product([False, True], repeat=len(ties)):
        yield (many, tuple(tie for tie, taken in zip(ties, chosen) if taken))


def some_web(chance, many, part):
    ties = itertools.combinations(range(many), 2)
    return (many, tuple(tie for tie in ties if chance.random() < part))


def some_house(chance, many, doors):
    return (many, tuple(tuple(chance.randrange(many) for room in range(many)) for door in range(doors)))


def ring(many):
    return (many, tuple(sorted([(0, many - 1)] + [(k, k + 1) for k in range(many - 1)])))


def path(many):
    return (many, tuple((k, k + 1) for k in range(many - 1)))


def slow_house(many):
    """Door 0 goes round, door 1 leads from the last room to the first: all gather by no fewer
    than (many - 1) times (many - 1) doors."""
    return (many, (tuple((k + 1) % many for k in range(many)), tuple(range(many - 1)) + (0,)))


def slow_row(many):
    return (1,) + ((0,) * (many - 1) + (1,)) * (many - 2)


def neighbours(web, place):
    return [tie[1 - end] for tie in web[1] for end in (0, 1) if tie[end] == place]


def slow_moves(web, places, moves_of):
    """The fewest moves of all counters together, from state to state, and the least place."""
    level = {tuple(places)}
    seen = set(level)
    count = 0
    while level:
        gathered = [state[0] for state in level if len(set(state)) == 1]
        if gathered:
            return (count, min(gathered))
        level = {new for state in level for new in moves_of(web, state)} - seen
        seen |= level
        count += 1
    return None


def one_goes(web, state):
    for k, place in enumerate(state):
        for other in neighbours(web, place):
            yield state[:k] + (other,) + state[k + 1:]


def all_go(web, state):
    return itertools.product(*[neighbours(web, place) for place in state])


def walks(web, start, moves):
    found = [(start,)]
    for move in range(moves):
        found = [walk + (other,) for walk in found for other in neighbours(web, walk[-1])]
    return found


def slow_led(house, places, row):
    rooms = set(places)
    for door in row:
        rooms = {house[1][door][room] for room in rooms}
    return tuple(sorted(rooms))


def slow_first(house, places, fits, longest):
    """The first row that fits, of all rows, the shorter ones first, up to a length."""
    for many in range(longest + 1):
        for row in itertools.product(range(len(house[1])), repeat=many):
            if fits(slow_led(house, places, row)):
                return row
    return None


def slow_reached(house, places):
    found = {tuple(places)}
    while True:
        more = found | {slow_led(house, each, (door,)) for each in found for door in range(len(house[1]))}
        if more == found:
            return sorted(found)
        found = more


def fewest_doors(house, places, fits):
    """How many doors are needed till a standing fits, counted level by level; or None."""
    level = {tuple(places)}
    seen = set(level)
    count = 0
    while level:
        if any(fits(each) for each in level):
            return count
        level = {slow_led(house, each, (door,)) for each in level for door in range(len(house[1]))} - seen
        seen |= level
        count += 1
    return None


def slow_careful_led(broken, places, row):
    """The standing behind a row, or None where a door of it leads nowhere from one of their rooms."""
    rooms = set(places)
    for door in row:
        rooms = {broken[1][door][room] for room in rooms}
        if None in rooms:
            return None
    return tuple(sorted(rooms))


def levels(start, doors, behind):
    """The sets of what can be come to by 0, 1, 2 and so on doors, but not by fewer."""
    level = {start}
    seen = set(level)
    while level:
        yield level
        level = {behind(each, door) for each in level for door in range(doors)} - seen - {None}
        seen |= level


def slow_seen(house, signs, room, row):
    """What one who is in a room sees along a row, and where one is then."""
    seen = [signs[room]]
    for door in row:
        room = house[1][door][room]
        seen.append(signs[room])
    return (tuple(seen), room)


def slow_parts(rooms, signs):
    return [frozenset(room for room in rooms if signs[room] == sign) for sign in {signs[room] for room in rooms}]


def some_broken_house(chance, many, doors, part):
    house = some_house(chance, many, doors)
    return (many, tuple(tuple(None if chance.random() < part else room for room in door) for door in house[1]))
