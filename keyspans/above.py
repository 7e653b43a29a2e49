"""Above: what several Pipelines keep alike, the least Pipeline above them, and the orders of services within them."""

from keyspans.errors import NoLeast, NoOrder, Unused
from keyspans.pipelines import Pipeline
from keyspans.rings import shortest_ring
from keyspans.spans import bits_of, fields_by_levels, parts_in
from keyspans.stages import Stage, check_same_keys


def kept_by_all(pipelines):
    """All pairs of PARTs of which each Pipeline that has both has one ahead of the other, ascending."""
    _check_all(pipelines)
    bits, before = _kept(pipelines)
    return [(one, other) for one in bits for other in bits if before[other] & bits[one] > 0]


def least_above(pipelines):
    """The least Pipeline above these, in its plain form."""
    _check_all(pipelines)
    keys = pipelines[0].schema
    bits, before = _kept(pipelines)
    sets = sorted(set(list(before.values())))
    for low, high in zip(sets, sets[1:]):
        if low & high != low:
            raise NoLeast(_above_with(keys, bits, before, low, high), _above_with(keys, bits, before, high, low))
    return Pipeline(keys, fields_by_levels(bits, before)).plain


def must_ahead(services, targets):
    """The pairs of services one of which must stand ahead of the other, or of itself, ascending."""
    _check_all([*targets, *services])
    pairs = []
    for target in targets:
        reaches = [_reach(service, target) for service in services]
        for i, (least_last, _) in enumerate(reaches):
            pairs.extend([(i, j) for j, (_, greatest_first) in enumerate(reaches) if least_last < greatest_first])
    return sorted(set(pairs))


def arrange(services, targets, *, wishes=()):
    """The least order of the services that fits the targets and the wishes."""
    pairs = _rules(services, targets, wishes)
    unused = _first_unused(services, targets)
    if unused is not None:
        service, target = unused
        raise Unused(service, target)
    order = _least_order(len(services), (), pairs)
    if order is None:
        raise NoOrder(_ring(len(services), pairs))
    return order


def orders(services, targets, *, wishes=()):
    """All orders of the services that fit the targets and the wishes, ascending."""
    pairs = _rules(services, targets, wishes)
    unused = _first_unused(services, targets)
    order = _least_order(len(services), (), pairs) if unused is None else None
    while order is not None:
        yield order
        order = _order_behind(order, pairs)


def how_many_orders(services, targets, *, wishes=()):
    """How many orders of the services fit the targets and the wishes."""
    pairs = _rules(services, targets, wishes)
    if _first_unused(services, targets) is not None:
        return 0
    # By the set of those that stand in front: in how many orders they can stand there.
    ways = {(): 1}
    for _ in services:
        longer = {}
        for front, many in ways.items():
            for i in _free(len(services), front, pairs):
                more = tuple(sorted(set([*front, i])))
                longer[more] = longer.get(more, 0) + many
        ways = longer
    return sum(list(ways.values()))


def any_order(services, targets):
    """Whether every order of the services fits the targets."""
    return len(must_ahead(services, targets)) == 0 and _first_unused(services, targets) is None


def _check_all(things):
    for thing in things:
        check_same_keys(things[0], thing)


def _kept(pipelines):
    # The PARTs of all Pipelines, each with its bit, and for each one the sum of the bits of those kept ahead of it.
    bits = bits_of(sorted(set([part for p in pipelines for part in p.parts])))
    together = sum(list(bits.values()))
    before = {part: together for part in bits}
    for p in pipelines:
        for part, late in _not_ahead(p, bits).items():
            before[part] = before[part] - (before[part] & late)
    return bits, before


def _not_ahead(p, bits):
    # For each PART that p has the sum of the bits of those that p has, too, and that do not end ahead of it.
    spans = {part: p.span(part) for part in bits}
    having = [part for part in bits if spans[part] is not None]
    late = [sum([bits[part] for part in having if place <= spans[part][1]]) for place in range(len(p))]
    return {part: late[spans[part][0]] for part in having}


def _above_with(keys, bits, before, ahead, others):
    # A Pipeline above all that has one pair ahead, and no pair that need not be ahead along with it: a PART that is
    # one of those ahead and none of the others, and a PART ahead of which just these are kept.
    one = [part for part in bits if ahead & bits[part] > 0 and others & bits[part] == 0][0]
    other = [part for part in bits if before[part] == ahead][0]
    return Pipeline(keys, (_parts_without(keys, bits, other), _parts_without(keys, bits, one))).plain


def _parts_without(keys, parts, barred):
    # The PARTs that do not bring a barred one along.
    return [part for part in parts if barred not in Stage(keys, (part,))]


def _reach(service, target):
    # Of the places that the PARTs of a service have in a target: the least last one, and the greatest first one.
    parts = [part for part in target.parts + parts_in(service.schema, [service]) if part in service]
    spans = [target.span(part) for part in parts if part in target]
    lasts = sorted(set([last for _, last in spans]))
    firsts = sorted(set([first for first, _ in spans]))
    return (lasts[0], firsts[-1]) if len(spans) > 0 else (len(target), -1)


def _first_unused(services, targets):
    # The first service with a PART that some target has not, and the first such target; None if there is none.
    for i, service in enumerate(services):
        parts = parts_in(service.schema, [service])
        for j, target in enumerate(targets):
            if not all([part in target for part in parts]):
                return i, j
    return None


def _rules(services, targets, wishes):
    # All pairs of services one of which stands ahead of the other.
    return must_ahead(services, targets) + [(i, j) for i, j in wishes]


def _free(many, front, pairs):
    # Of so many services those that can come next behind a front.
    bound = [j for i, j in pairs if i not in front]
    return [j for j in range(many) if j not in front and j not in bound]


def _least_order(many, front, pairs):
    # The least order of so many services that begins with a front, None if there is none.
    order = front
    while len(order) < many:
        free = _free(many, order, pairs)
        if len(free) == 0:
            return None
        order = (*order, free[0])
    return order


def _order_behind(order, pairs):
    # The next order, None if there is none: the longest front that can go on in a greater way goes on so.
    for place in range(len(order) - 1, -1, -1):
        front = order[:place]
        greater = [i for i in _free(len(order), front, pairs) if i > order[place]]
        if len(greater) > 0:
            return _least_order(len(order), (*front, greater[0]), pairs)
    return None


def _ring(many, pairs):
    # A ring of as few services as possible.
    return shortest_ring({i: [((), j) for one, j in pairs if one == i] for i in range(many)})
