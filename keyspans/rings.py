"""Rings: ways that lead back to where they began."""


def shortest_ring(leaps):
    """A shortest way back: the tuple of all that stands on it; None if there is none.

    leaps holds for each start the leaps from it: pairs of what is passed on the leap, a tuple, and of its end. On each
    leap as many are passed.
    """
    best = None
    for start in leaps:
        ring = _ring_from(start, leaps)
        if ring is not None and (best is None or len(ring) < len(best)):
            best = ring
    return best


def _ring_from(start, leaps):
    # The shortest way from a start back to it, None if there is none.
    ways = {start: (start,)}
    level = [start]
    while len(level) > 0:
        ends = []
        for place in level:
            for passed, end in leaps[place]:
                if end == start:
                    return ways[place] + passed
                if end not in ways:
                    ways[end] = (*ways[place], *passed, end)
                    ends.append(end)
        level = ends
    return None
