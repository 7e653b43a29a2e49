"""Forms: the Pipelines that are their own plain form and are written with whole names alone."""

from keyspans.pipelines import Pipeline


def forms_over(keys, names):
    """All forms over a set of names, with what these tell; those with fewer stages first, then by their texts."""
    found = []
    for many in range(len(names) + 1):
        texts = {}
        for spans in _all_spans(keys, names, many):
            form = Pipeline(keys, _stages(spans, many))
            texts[form.text] = form
        found.extend([texts[text] for text in sorted(set(list(texts)))])
    return found


def _all_spans(keys, names, many):
    # All ways to give each name a span of some of so many places, or none, in a form.
    spans = [None] + [(first, last) for last in range(many) for first in range(last + 1)]
    ways = [{}]
    for at, name in enumerate(names):
        left = len(names) - 1 - at
        ways = [{**way, name: span} for way in ways for span in spans]
        ways = [way for way in ways if _is_closed(keys, way, name) and _is_plain_with(way, many, left)]
    return ways


def _is_closed(keys, way, name):
    # A stage with a name has all that this tells; the names that were there before are looked at from both sides.
    for other in way:
        if keys.tells(name, other) and not _is_within(way[name], way[other]):
            return False
        if keys.tells(other, name) and not _is_within(way[other], way[name]):
            return False
    return True


def _is_within(span, other):
    return span is None or (other is not None and other[0] <= span[0] and span[1] <= other[1])


def _is_plain_with(way, many, left):
    # Whether so many names more can make it plain: no stage is within a neighbour, so at each place some span begins
    # and some span ends.
    spans = [span for span in way.values() if span is not None]
    begins = len(set([first for first, _ in spans]))
    ends = len(set([last for _, last in spans]))
    return many - begins <= left and many - ends <= left


def _stages(way, many):
    stages = []
    for place in range(many):
        stages.append([name for name, span in way.items() if span is not None and span[0] <= place <= span[1]])
    return stages
