"""Given rows: which records can come next, shown by the rows between or barred by a ring."""

from keyspans.carry import carried
from keyspans.errors import Doubled, NoRecord, TooManyLevels
from keyspans.lanes import passes
from keyspans.rings import shortest_ring
from keyspans.stages import Stage
from keyspans.values import is_int, numbers_of, tupled


def may_come(p, row, front):
    """A RUN of p whose last row begins with the front, None if there is none."""
    _check_front(row, front)
    plain = p.plain
    run = _run_by_steps(plain, row, front) if len(plain) <= 2 else _run_by_orders(plain, row, front)
    return None if run is None else carried(plain, p, run)


def why_never(p, row, front):
    """A shortest ring, or all orders if there are more than two levels; None if the front can come."""
    _check_front(row, front)
    plain = p.plain
    if len(plain) <= 2:
        first, second = _steps(plain, row, front)
        return _shortest_ring(first, second)
    entries = reached(plain, row)
    return None if any([_begins(order, front) for order in entries[-1]]) else entries


def is_ring(p, row, front, thing):
    """Whether a thing is a ring that bars the front."""
    _check_front(row, front)
    plain = p.plain
    if len(plain) > 2:
        raise TooManyLevels(len(plain))
    if not _is_round(row, thing):
        return False
    levels = _steps(plain, row, front)
    nexts = thing[1:] + thing[:1]
    return all([nexts[at] in levels[at % 2][number] for at, number in enumerate(thing)])


def next_numbers(p, row, front):
    """The set of the numbers that can come next behind the front."""
    _check_front(row, front)
    plain = p.plain
    if len(plain) > 2:
        orders = [order for order in all_outs(plain, row) if _begins(order, front)]
        return tuple(sorted(set([order[len(front)] for order in orders if len(front) < len(order)])))
    numbers = []
    for number in sorted(set([number for number in numbers_of(row) if number not in front])):
        first, second = _steps(plain, row, [*front, number])
        if _shortest_ring(first, second) is None:
            numbers.append(number)
    return tuple(numbers)


def reached(p, row):
    """For each place between the stages of p all orders in which the records can stand there."""
    orders = (numbers_of(row),)
    entries = [orders]
    for stage in p.stages:
        orders = _mixed(stage, row, orders)
        entries.append(orders)
    return tuple(entries)


def all_outs(p, row):
    """All orders in which the records can come out of p."""
    return reached(p, row)[-1]


def lets_out(plain, row, out):
    """Whether a plain form lets out come from row; these have the same records."""
    order = numbers_of(out)
    if len(plain) > 2:
        return order in all_outs(plain, row)
    first, second = _steps(plain, row, order)
    return _shortest_ring(first, second) is None


def run_to_order(p, row, order):
    """A RUN of p from row to an order that is one of all_outs."""
    entries = reached(p, row)
    rows = [_ordered(row, order)]
    for place in range(len(p) - 1, -1, -1):
        rows.append(_row_ahead(p[place], row, entries[place], rows[-1]))
    return tuple(rows[::-1])


def _check_front(row, front):
    for at, number in enumerate(front):
        if number in front[:at]:
            raise Doubled(number)
    numbers = numbers_of(row)
    for number in front:
        if number not in numbers:
            raise NoRecord(number)


def _begins(order, front):
    return order[:len(front)] == tuple(front)


def _ordered(row, order):
    # The records of row in the order of these numbers.
    records = {record[0]: record for record in tupled(row)}
    return tuple([records[number] for number in order])


def _mixed(stage, row, orders):
    # All orders that come of these by exchanges of neighbours of different lanes.
    lane_of = {record[0]: stage.lane(record) for record in row}
    found = {order: True for order in orders}
    pending = list(orders)
    while len(pending) > 0:
        order = pending.pop()
        for at in range(len(order) - 1):
            one, other = order[at], order[at + 1]
            exchanged = order[:at] + (other, one) + order[at + 2:]
            if lane_of[one] != lane_of[other] and exchanged not in found:
                found[exchanged] = True
                pending.append(exchanged)
    return tuple(sorted(set(list(found))))


def _row_ahead(stage, row, orders, out):
    # Of these orders the first from which the stage lets out come; there is one.
    for order in orders:
        ahead = _ordered(row, order)
        if passes(stage, ahead, out):
            return ahead
    return None


def _two_levels(plain):
    # The stages that are called FIRST and SECOND.
    if len(plain) == 0:
        return Stage(plain.schema, ()), Stage(plain.schema, ())
    return plain[0], plain[len(plain) - 1]


def _steps(plain, row, front):
    # For each number those to which a step by FIRST leads, and the same by SECOND.
    first, second = _two_levels(plain)
    front_first = [*front, *[number for number in numbers_of(row) if number not in front]]
    return _steps_behind(first, row, len(row)), _steps_behind(second, _ordered(row, front_first), len(front))


def _steps_behind(stage, row, many):
    # Steps lead from the first many records of row to those of their lanes behind them.
    lane_of = [stage.lane(record) for record in row]
    numbers = numbers_of(row)
    steps = {number: () for number in numbers}
    for at in range(many):
        behind = [other for other in range(at + 1, len(row)) if lane_of[other] == lane_of[at]]
        steps[numbers[at]] = tuple([numbers[other] for other in behind])
    return steps


def _shortest_ring(first, second):
    # Of the shortest rings one: no number stands in it twice, as two steps in one lane join to one.
    leaps = {}
    for number, middles in first.items():
        leaps[number] = [((middle,), end) for middle in middles for end in second[middle]]
    return shortest_ring(leaps)


def _is_round(row, thing):
    # Whether a thing has the form of a ring: numbers of the row, an even many, at least two, all different.
    if not isinstance(thing, tuple) or not all([is_int(member) for member in thing]):
        return False
    if len(thing) == 0 or len(thing) % 2 == 1 or len(set(thing)) < len(thing):
        return False
    numbers = numbers_of(row)
    return all([member in numbers for member in thing])


def _run_by_steps(plain, row, front):
    # A RUN of a plain form of at most two stages whose last row begins with the front, None if a ring bars it.
    first, second = _steps(plain, row, front)
    if _shortest_ring(first, second) is not None:
        return None
    between = _forward(first, second)
    out = [*front, *[number for number in between if number not in front]]
    # A single stage does at once what two alike would do; without stages out is row.
    ahead = (tupled(row), _ordered(row, between))[:len(plain)]
    return *ahead, _ordered(row, out)


def _run_by_orders(plain, row, front):
    # The same for a plain form of more stages and a row of few records.
    orders = [order for order in all_outs(plain, row) if _begins(order, front)]
    return run_to_order(plain, row, orders[0]) if len(orders) > 0 else None


def _forward(first, second):
    # The numbers in an order in which all steps lead forward; there must be no ring.
    left = list(first)
    order = []
    while len(left) > 0:
        behind = [end for number in left for end in first[number] + second[number]]
        free = [number for number in left if number not in behind]
        order.append(free[0])
        left.remove(free[0])
    return order
