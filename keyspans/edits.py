"""Edits: what a change of a Pipeline does, what is needless in it, and all forms that Pipelines can have."""

from keyspans.errors import NoName, NoPart, NoPlace
from keyspans.forms import forms_over
from keyspans.keys import all_names
from keyspans.pipelines import Pipeline
from keyspans.spans import span_in
from keyspans.stages import Stage, stage_of_numbers


def edited(pipeline, edit):
    """The Pipeline behind an EDIT."""
    word, place = edit[0], edit[1]
    if not 0 <= place < _many_places(pipeline, word):
        raise NoPlace(place)
    ahead, rest = pipeline.stages[:place], pipeline.stages[place:]
    if word == "set":
        made = (_set(rest[0], edit[2], edit[3]), *rest[1:])
    elif word == "drop":
        made = rest[1:]
    elif word == "put":
        made = (Stage.of(pipeline.schema, edit[2]), *rest)
    elif word == "swap":
        made = (rest[1], rest[0], *rest[2:])
    else:
        made = (rest[0] | rest[1], *rest[2:])
    return Pipeline(pipeline.schema, ahead + made)


def effect(pipeline, edit):
    """What an EDIT does to what comes out: same, less, more or neither."""
    return word_of_change(pipeline, edited(pipeline, edit))


def word_of_change(pipeline, changed):
    """What the second of two Pipelines lets out, compared with the first: same, less, more or neither."""
    less, more = changed <= pipeline, pipeline <= changed
    if less and more:
        return "same"
    if less:
        return "less"
    return "more" if more else "neither"


def needless_stages(pipeline):
    """The set of the places of stages that can go, each one alone, without any effect."""
    return _places_without_effect(pipeline, "drop")


def swaps(pipeline):
    """The set of the places of stages that can change places with the next one without any effect."""
    return _places_without_effect(pipeline, "swap")


def joints(pipeline):
    """The set of the places of stages that can become one with the next one without any effect."""
    return _places_without_effect(pipeline, "join")


def lean(pipeline):
    """The Pipeline of as few stages as there can be, with each PART only where its span begins and where it ends."""
    plain = pipeline.plain
    spans = [(part, plain.span(part)) for part in pipeline.parts]
    stages = []
    for place in range(len(plain)):
        stages.append([part for part, span in spans if place in span])
    return Pipeline(pipeline.schema, stages)


def twice(pipeline, part):
    """Two PARTs, one ahead of the other, for which a PART must stand in two stages; None if one is enough."""
    plain = pipeline.plain
    span = span_in(plain.stages, part)
    if span is None:
        raise NoPart(part)
    first, last = span
    if first == last:
        return None
    # No stage of a plain form is within its neighbour: in the first one some PART ends, in the last one some begins.
    ends = [one for one in pipeline.parts if plain.span(one)[1] == first]
    begins = [other for other in pipeline.parts if plain.span(other)[0] == last]
    return ends[0], begins[0]


def forms(keys):
    """All plain forms of whole names, those with fewer stages first, then in the order of their texts."""
    return forms_over(keys, keys.names)


def how_many_forms(count):
    """How many forms there are for so many names, none of which tells another one."""
    return sum([_how_many_forms_of(count, places) for places in range(count + 1)])


def _many_places(pipeline, word):
    # From 0 to below this are the places that an EDIT can have.
    if word == "put":
        return len(pipeline) + 1
    return len(pipeline) - 1 if word in ("swap", "join") else len(pipeline)


def _set(stage, name, m):
    names = all_names(stage.schema)
    if name not in names:
        raise NoName(name)
    return stage_of_numbers(stage.schema, [(other, m if other == name else stage[other]) for other in names])


def _places_without_effect(pipeline, word):
    places = range(_many_places(pipeline, word))
    return tuple([place for place in places if effect(pipeline, (word, place)) == "same"])


def _how_many_forms_of(count, places):
    # Each name has no span or one of these; left out again are those where no span begins, or none ends, at a place.
    # By inclusion and exclusion: the places at which spans may begin, and at which they may end, are chosen freely,
    # and each place that is not chosen turns the sign.
    choices = {(0, 0): 1}
    for _ in range(places):
        choices = _with_a_place(choices)
    return sum([weight * _power(1 + spans, count) for (_, spans), weight in choices.items()])


def _with_a_place(choices):
    # For how many places at which spans may begin, and how many spans, the sum of the signs; one place more.
    longer = {}
    for (begins, spans), weight in choices.items():
        for begin in (0, 1):
            for end in (0, 1):
                key = (begins + begin, spans + (begins + begin) * end)
                sign = 1 if begin == end else -1
                longer[key] = longer.get(key, 0) + sign * weight
    return longer


def _power(base, exponent):
    product = 1
    for _ in range(exponent):
        product = product * base
    return product
