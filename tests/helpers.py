"""What several tests use: a check of errors, and answers made straight from the words of the document."""

from itertools import permutations
from math import gcd


def check_raises(test, error, held, call, *args, **named):
    """Fails unless the call raises just this error, holding these values."""
    with test.assertRaises(error) as caught:
        call(*args, **named)
    test.assertIs(type(caught.exception), error)
    test.assertEqual({name: getattr(caught.exception, name) for name in held}, held)


def all_names(keys):
    return ("#",) + keys.names


def plain_divides(m, number):
    if number == 0:
        return True
    return m != 0 and number % m == 0


def plain_lcm(one, other):
    return 0 if one == 0 or other == 0 else one * other // gcd(one, other)


def plain_lane(keys, stage, record):
    """What the Stage looks at, by its numbers."""
    worths = [record[0], *record[1]]
    lane = []
    for name, worth in zip(all_names(keys), worths):
        m = stage[name]
        if m == 0:
            lane.append(worth)
        elif m > 1:
            lane.append(worth % m)
    return tuple(lane)


def plain_crossed(keys, stage, row, out):
    """All pairs of numbers of RECORDs of one lane that are exchanged, in the order of crossed."""
    numbers = [record[0] for record in out]
    pairs = []
    for at, one in enumerate(row):
        for other in row[at + 1:]:
            together = plain_lane(keys, stage, one) == plain_lane(keys, stage, other)
            if together and numbers.index(one[0]) > numbers.index(other[0]):
                pairs.append((one[0], other[0]))
    return pairs


def plain_lanes(keys, stage, row):
    found = []
    for record in row:
        mates = [lane for lane in found if plain_lane(keys, stage, lane[0]) == plain_lane(keys, stage, record)]
        if mates:
            mates[0].append(record)
        else:
            found.append([record])
    return [tuple(lane) for lane in found]


def plain_turns(keys, stage, row, out):
    lanes = plain_lanes(keys, stage, row)
    return tuple(at for record in out for at, lane in enumerate(lanes) if record in lane)


def plain_outs(keys, stage, row):
    """Every row that may come out, by the order of its TURNS."""
    found = [out for out in permutations(row) if not plain_crossed(keys, stage, row, out)]
    return sorted(found, key=lambda out: plain_turns(keys, stage, row, out))


def things():
    """Values of all kinds that are neither FIELD, PART nor ROW for Keys of three names."""
    from keyspans.errors import MixedKeys, NoName
    from keyspans.keys import Keys
    from keyspans.stages import Stage
    keys = Keys(("a", "b", "c"))
    deep = 7
    for level in range(12):
        deep = [deep] if level % 2 else (deep,)
    return [
        0, 1, -1, 12, 10 ** 100, -(10 ** 100), True, False, None,
        "", " ", "-", "1", "abc def", [], [()], [[]], [1], ["a"], ("a",), ("a", 0), (("a", 0),), ((),), (None,), (True,),
        ((1, 2),), ((1, (2, 3)), 4), {}.get("x"), deep, ([],), ((1, (0, 0, 0)), []), ((1, (0, 0, 0)), None),
        keys, Stage(keys, ("a",)), (keys,), (Stage(keys, ()),), [keys], NoName("a"), (MixedKeys(),),
    ]
