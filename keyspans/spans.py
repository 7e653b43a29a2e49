"""Spans: which PARTs some stages have, from which place to which, and what follows from it alone."""

from keyspans.keys import all_names, field_text
from keyspans.primes import prime_powers
from keyspans.stages import Stage


def parts_in(keys, stages):
    """The set of the PARTs that the numbers of the stages bring."""
    parts = []
    for name in all_names(keys):
        numbers = sorted(set([stage[name] for stage in stages]))
        if 0 in numbers:
            parts.append(name)
        parts.extend([field_text(name, power) for power in prime_powers([m for m in numbers if m > 1])])
    return tuple(sorted(set(parts)))


def span_in(stages, part):
    """The first and the last place whose Stage has the PART, None if there is none."""
    places = [place for place, stage in enumerate(stages) if part in stage]
    return (places[0], places[-1]) if len(places) > 0 else None


def spans_in(keys, stages):
    """For each PART that the numbers of the stages bring, in ascending order, its span."""
    return {part: span_in(stages, part) for part in parts_in(keys, stages)}


def is_ahead(one, other):
    """Whether there are two spans, and one ends ahead of the other."""
    return one is not None and other is not None and one[1] < other[0]


def filled_stages(p):
    """As many stages as the Pipeline has: each with the PARTs whose span holds its place."""
    spans = [(part, p.span(part)) for part in p.parts]
    stages = []
    for place in range(len(p)):
        stages.append(Stage(p.schema, [part for part, (first, last) in spans if first <= place <= last]))
    return stages


def without_needless(stages):
    """What is left when stages that are within a neighbour, and a single last one without FIELDs, are left out."""
    left = []
    for stage in stages:
        while len(left) > 0 and left[-1] <= stage:
            left.pop()
        if len(left) == 0 or not stage <= left[-1]:
            left.append(stage)
    if len(left) == 1 and len(left[0]) == 0:
        return []
    return left


def parts_apart(p, q):
    """Why p <= q does not hold: (part,) that q has not, or (one, other) that are ahead in q alone; () if it holds.

    Of p only its parts are looked at: a PART that p has besides stands in a whole name, and has the span of this.
    """
    mine = {part: p.span(part) for part in p.parts}
    yours = {part: q.span(part) for part in p.parts}
    for part in p.parts:
        if yours[part] is None:
            return (part,)
    for one in p.parts:
        for other in p.parts:
            if is_ahead(yours[one], yours[other]) and not is_ahead(mine[one], mine[other]):
                return one, other
    return ()


def bits_of(parts):
    """For each PART a number of its own, such that each set of PARTs has a sum of its own: 1, 2, 4 and so on."""
    bits = {}
    bit = 1
    for part in parts:
        bits[part] = bit
        bit = bit * 2
    return bits


def fields_by_levels(bits, before):
    """The PARTs of each stage of a Pipeline in which these sets are ahead of the PARTs; sets are sums of bits.

    For each of these sets, from the least on, those that can stand behind it and are not in it. The sets must lie
    within one another: then the less of two is the one with the smaller sum.
    """
    stages = []
    for level in sorted(set(list(before.values()))):
        behind = [part for part in bits if before[part] & level == before[part]]
        stages.append([part for part in behind if level & bits[part] == 0])
    return stages
