"""What several tests use: a check of errors, and answers made straight from the words of the document."""

from itertools import permutations
from math import gcd


def check_raises(test, error, held, call, *args, **named):
    """Fails unless the call raises just this error, holding these values."""
    with test.assertRaises(error) as caught:
        call(*args, **named)
    test.assertIs(type(caught.exception), error)
    test.assertEqual({name: getattr(caught.exception, name) for name in held}, held)


def all_names(keys):
    return ("#",) + keys.names


def plain_divides(m, number):
    if number == 0:
        return True
    return m != 0 and number % m == 0


def plain_lcm(one, other):
    return 0 if one == 0 or other == 0 else one * other // gcd(one, other)


def plain_lane(keys, stage, record):
    """What the Stage looks at, by its numbers."""
    worths = [record[0], *record[1]]
    lane = []
    for name, worth in zip(all_names(keys), worths):
        m = stage[name]
        if m == 0:
            lane.append(worth)
        elif m > 1:
            lane.append(worth % m)
    return tuple(lane)


def plain_crossed(keys, stage, row, out):
    """All pairs of numbers of RECORDs of one lane that are exchanged, in the order of crossed."""
    numbers = [record[0] for record in out]
    pairs = []
    for at, one in enumerate(row):
        for other in row[at + 1:]:
            together = plain_lane(keys, stage, one) == plain_lane(keys, stage, other)
            if together and numbers.index(one[0]) > numbers.index(other[0]):
                pairs.append((one[0], other[0]))
    return pairs


def plain_lanes(keys, stage, row):
    found = []
    for record in row:
        mates = [lane for lane in found if plain_lane(keys, stage, lane[0]) == plain_lane(keys, stage, record)]
        if mates:
            mates[0].append(record)
        else:
            found.append([record])
    return [tuple(lane) for lane in found]


def plain_turns(keys, stage, row, out):
    lanes = plain_lanes(keys, stage, row)
    return tuple(at for record in out for at, lane in enumerate(lanes) if record in lane)


def plain_outs(keys, stage, row):
    """Every row that may come out, by the order of its TURNS."""
    found = [out for out in permutations(row) if not plain_crossed(keys, stage, row, out)]
    return sorted(found, key=lambda out: plain_turns(keys, stage, row, out))


def things():
    """Values of all kinds that are neither FIELD, PART, ROW, RUN nor ring, and no Parting, for Keys of three names."""
    from keyspans.board import Board
    from keyspans.errors import MixedKeys, NoName
    from keyspans.keys import Keys
    from keyspans.logs import Logs
    from keyspans.partings import Parting
    from keyspans.pipelines import Pipeline
    from keyspans.promises import Line, Promise, Restorer
    from keyspans.stages import Stage
    keys = Keys(("a", "b", "c"))
    deep = 7
    for level in range(12):
        deep = [deep] if level % 2 else (deep,)
    return [
        0, 1, -1, 12, 10 ** 100, -(10 ** 100), True, False, None,
        "", " ", "-", "1", "abc def", [], [()], [[]], [1], ["a"], ("a",), ("a", 0), (("a", 0),), ((),), (None,), (True,),
        ((1, 2),), ((1, (2, 3)), 4), {}.get("x"), deep, ([],), ((1, (0, 0, 0)), []), ((1, (0, 0, 0)), None),
        keys, Stage(keys, ("a",)), (keys,), (Stage(keys, ()),), [keys], NoName("a"), (MixedKeys(),),
        Pipeline(keys), (Pipeline(keys, (("a",),)),), (Parting(((),), ()),), [[((1, (0, 0, 0)),)], [((1, (0, 0, 0)),)]],
        Promise(Stage(keys, ("a",))), (Restorer(Stage(keys, ())),), Line(keys, ()), (Line(keys, ()),), Logs(keys), [Logs(keys)],
        Board(keys), (Board(keys), Board(keys), Board(keys)),
    ]


def numbers(row):
    return tuple(record[0] for record in row)


def plain_has(stage, part):
    """Whether a Stage has a PART, by its numbers."""
    name, _, m = part.partition("/")
    return plain_divides(int(m or 0), stage[name])


def plain_span(p, part):
    places = [place for place, stage in enumerate(p.stages) if plain_has(stage, part)]
    return (places[0], places[-1]) if places else None


def plain_ahead(p, one, other):
    first, second = plain_span(p, one), plain_span(p, other)
    return bool(first and second and first[1] < second[0])


def plain_parts(p):
    """The PARTs that a Pipeline brings, found by trying one factor behind the other."""
    parts = set()
    for name in all_names(p.schema):
        for m in {stage[name] for stage in p.stages}:
            parts.update([name] if m == 0 else [f"{name}/{power}" for power in plain_powers(m)])
    return tuple(sorted(parts))


def plain_powers(m):
    """The powers of primes that divide m, which is not 0."""
    powers = []
    factor = 2
    while m > 1:
        power = 1
        while m % factor == 0:
            m //= factor
            power *= factor
            powers.append(power)
        factor = factor + 1 if factor * factor <= m else m
    return powers


def plain_within(p, q):
    """p <= q, by the PARTs of both and one that neither brings."""
    looked_at = {*plain_parts(p), *plain_parts(q), *[name + "/7" for name in all_names(p.schema)]}
    mine = [part for part in sorted(looked_at) if plain_span(p, part)]
    return all(plain_span(q, part) for part in mine) and all(
        plain_ahead(p, one, other) for one in mine for other in mine if plain_ahead(q, one, other))


def plain_reached(p, row):
    """All orders behind each stage, by the definition: each lane keeps the order that it had ahead of the stage."""
    entries = [(numbers(row),)]
    for stage in p.stages:
        lane_of = {record[0]: plain_lane(p.schema, stage, record) for record in row}
        ahead = [lanes_of_order(lane_of, order) for order in entries[-1]]
        entries.append(tuple(
            order for order in permutations(sorted(lane_of)) if lanes_of_order(lane_of, order) in ahead))
    return tuple(entries)


def lanes_of_order(lane_of, order):
    lanes = {}
    for number in order:
        lanes.setdefault(lane_of[number], []).append(number)
    return lanes


def pipelines(keys, choices, most):
    """All Pipelines of at most so many stages, each stage with one of these texts."""
    from itertools import product
    from keyspans.pipelines import Pipeline
    return [
        Pipeline(keys, [text.split() for text in texts])
        for many in range(most + 1) for texts in product(choices, repeat=many)]


def random_row(random, keys, many, values):
    """A lawful row of at most so many records."""
    from keyspans.lanes import is_row
    row = ()
    for _ in range(20 * many):
        if len(row) < many:
            more = row + ((random.randrange(2 * many + 3), tuple(random.choice(values) for _ in keys.names)),)
            row = more if is_row(keys, more) else row
    return row


def random_pipeline(random, keys, fields, most):
    """A Pipeline of at most so many stages, with some of these FIELDs in each."""
    from keyspans.pipelines import Pipeline
    many = random.randrange(most + 1)
    return Pipeline(keys, [random.sample(fields, random.choice((0, 1, 1, 2, 2))) for _ in range(many)])
