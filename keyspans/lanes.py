"""Lanes: what one Stage lets out of a row of records."""

from keyspans.errors import BadTurns, Doubled, NoName, NoPlace, Unlawful
from keyspans.keys import all_names, field_of
from keyspans.stages import Stage
from keyspans.turns import first_turns, how_many_turns, next_turns, nth_turns, place_of_turns
from keyspans.values import is_int


def is_row(keys, thing):
    """Whether a thing is a ROW for these Keys."""
    if not isinstance(thing, tuple):
        return False
    if not all([_is_record(keys, member) for member in thing]):
        return False
    return _first_doubled(thing) is None and _first_clash(keys, thing) is None


def row_of(keys, records):
    """The ROW of these RECORDs."""
    row = _tuples(records)
    doubled = _first_doubled(row)
    if doubled is not None:
        raise Doubled(doubled)
    clash = _first_clash(keys, row)
    if clash is not None:
        first, second, name = clash
        raise Unlawful(first, second, name)
    return row


def value(keys, record, field):
    """What a FIELD shows of a RECORD."""
    name, m = field_of(field)
    if name != "#" and name not in keys:
        raise NoName(name)
    number, values = record
    shown = number if name == "#" else values[keys.names.index(name)]
    return shown if m == 0 else shown % m


def lanes(stage, row):
    """The lanes of the Stage over the ROW, in the order of their first RECORDs."""
    return [tuple(queue) for queue in _queues(stage, row).values()]


def passes(stage, row, out):
    """Whether the Stage lets out come from row."""
    # Equal queues have the same RECORDs, too.
    return _queues(stage, row) == _queues(stage, out)


def crossed(stage, row, out):
    """The first two numbers of RECORDs of one lane that are exchanged, None if there are none."""
    places = _places(out)
    for at, one in enumerate(row):
        for other in row[at + 1:]:
            if places[other[0]] < places[one[0]] and stage.same(one, other):
                return one[0], other[0]
    return None


def pour(stage, row, turns):
    """The ROW that comes out by these TURNS."""
    return _poured(lanes(stage, row), turns)


def turns_of(stage, row, out):
    """The TURNS by which out comes, None if it does not pass."""
    if not passes(stage, row, out):
        return None
    numbers = {lane: at for at, lane in enumerate(_queues(stage, row))}
    return tuple([numbers[stage.lane(record)] for record in out])


def timed(stage, row, arrivals, costs):
    """The ROW by the ends of the work, when each lane works on one RECORD at a time."""
    free = {}
    ends = []
    for record, arrival, cost in zip(row, arrivals, costs):
        lane = stage.lane(record)
        begin = free.get(lane, 0)
        if begin < arrival:
            begin = arrival
        free[lane] = begin + cost
        ends.append(free[lane])
    order = sorted(set([(end, at) for at, end in enumerate(ends)]))
    records = _tuples(row)
    return tuple([records[at] for end, at in order])


def costs_of(stage, row, out):
    """The costs by which out comes when all arrive at 0, None if it does not pass."""
    if not passes(stage, row, out):
        return None
    places = _places(out)
    free = {}
    costs = []
    for record in row:
        lane = stage.lane(record)
        end = places[record[0]] + 1
        costs.append(end - free.get(lane, 0))
        free[lane] = end
    return tuple(costs)


def how_many(stage, row):
    """The number of ROWs that the Stage lets come from row."""
    return how_many_turns(_counts(stage, row))


def nth(stage, row, k):
    """The ROW at place k of those that the Stage lets come, in the order of their TURNS."""
    counts = _counts(stage, row)
    if not 0 <= k < how_many_turns(counts):
        raise NoPlace(k)
    return pour(stage, row, nth_turns(counts, k))


def place(stage, row, out):
    """The place of out among the ROWs that the Stage lets come, None if it does not pass."""
    turns = turns_of(stage, row, out)
    if turns is None:
        return None
    return place_of_turns(_counts(stage, row), turns)


def next_out(stage, row, out):
    """The ROW behind out among those that the Stage lets come, None if there is none."""
    turns = turns_of(stage, row, out)
    if turns is None:
        return None
    later = next_turns(turns)
    return None if later is None else pour(stage, row, later)


def outs(stage, row):
    """All ROWs that the Stage lets come from row, in the order of their TURNS."""
    queues = lanes(stage, row)
    turns = first_turns([len(queue) for queue in queues])
    while turns is not None:
        yield _poured(queues, turns)
        turns = next_turns(turns)


def exchanges(row, out):
    """The places at which neighbours are exchanged, one exchange behind the other, to lead row to out."""
    places = _places(out)
    order = [places[record[0]] for record in row]
    exchanged = []
    at = _first_fall(order)
    while at is not None:
        order[at], order[at + 1] = order[at + 1], order[at]
        exchanged.append(at)
        at = _first_fall(order)
    return tuple(exchanged)


def least_stages(keys, row, out):
    """The least Stages of whole FIELDs that let out come from row, in the order of their texts."""
    letting = {}
    for fields in _choices(all_names(keys)):
        stage = Stage(keys, fields)
        if passes(stage, row, out):
            letting[stage.text] = stage
    stages = list(letting.values())
    least = [one.text for one in stages if not any([other < one for other in stages])]
    return [letting[text] for text in sorted(set(least))]


def _is_record(keys, thing):
    if not isinstance(thing, tuple) or len(thing) != 2:
        return False
    number, values = thing
    if not is_int(number) or number < 0:
        return False
    if not isinstance(values, tuple) or len(values) != len(keys):
        return False
    return all([is_int(worth) for worth in values])


def _tuples(row):
    # Callers may pass lists; what is returned holds tuples alone.
    return tuple([(number, tuple(values)) for number, values in row])


def _first_doubled(row):
    numbers = [record[0] for record in row]
    for at, number in enumerate(numbers):
        if number in numbers[:at]:
            return number
    return None


def _first_clash(keys, row):
    # The arguments of Unlawful, None for a lawful row.
    for at, second in enumerate(row):
        for first in row[:at]:
            name = _clashing_name(keys, first, second)
            if name is not None:
                return first[0], second[0], name
    return None


def _clashing_name(keys, one, other):
    # The least name in which the two are alike while a name that it tells differs.
    alike = {name: mine == yours for name, mine, yours in zip(keys.names, one[1], other[1])}
    for teller, told in keys.pairs:
        if alike[teller] and not alike[told]:
            return teller
    return None


def _queues(stage, row):
    # The RECORDs of each lane, in order, by what the Stage looks at.
    queues = {}
    for record in _tuples(row):
        lane = stage.lane(record)
        if lane not in queues:
            queues[lane] = []
        queues[lane].append(record)
    return queues


def _counts(stage, row):
    return [len(lane) for lane in lanes(stage, row)]


def _poured(queues, turns):
    taken = [0 for _ in queues]
    out = []
    for at, turn in enumerate(turns):
        if not 0 <= turn < len(queues) or taken[turn] == len(queues[turn]):
            raise BadTurns(at)
        out.append(queues[turn][taken[turn]])
        taken[turn] += 1
    if len(out) < sum([len(queue) for queue in queues]):
        raise BadTurns(len(out))
    return tuple(out)


def _places(row):
    return {record[0]: at for at, record in enumerate(row)}


def _first_fall(order):
    # The first place with a greater number than its neighbour on the right, None if there is none.
    for at in range(len(order) - 1):
        if order[at] > order[at + 1]:
            return at
    return None


def _choices(names):
    # All tuples that leave out some of the names, or none, or all.
    choices = [()]
    for name in names:
        choices = choices + [choice + (name,) for choice in choices]
    return choices
