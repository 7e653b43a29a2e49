"""Pipelines: stages that stand one behind another."""

from keyspans.errors import BadField, BadTurns, MixedKeys, NoName, NoPlace
from keyspans.keys import all_names, field_of, is_part
from keyspans.lanes import pour
from keyspans.spans import (
    bits_of, fields_by_levels, filled_stages, is_ahead, parts_apart, span_in, spans_in, without_needless)
from keyspans.stages import Stage, check_same_keys
from keyspans.values import tupled


class Pipeline:
    """Stages in the order in which records go through them."""

    def __init__(self, keys, stages=()):
        self._schema = keys
        self._stages = _staged(keys, stages)
        self._spans = spans_in(keys, self._stages)

    @staticmethod
    def of(keys, text):
        """The Pipeline of the Stages in a text."""
        pieces = text.split("; ") if text != "" else []
        return Pipeline(keys, [Stage.of(keys, piece) for piece in pieces])

    @property
    def schema(self):
        """The Keys."""
        return self._schema

    @property
    def stages(self):
        """The tuple of the Stages."""
        return self._stages

    @property
    def text(self):
        """The text from which Pipeline.of makes these stages."""
        return "; ".join([stage.text for stage in self._stages])

    @property
    def parts(self):
        """The set of the PARTs that the numbers of the stages bring."""
        return tuple(self._spans)

    @property
    def plain(self):
        """The plain form: of all Pipelines that are alike, the one with the fewest stages."""
        return Pipeline(self._schema, without_needless(filled_stages(self)))

    def span(self, part):
        """The first and the last place whose Stage has the PART, None if there is none."""
        _check_parts(self._schema, (part,))
        return self._spans[part] if part in self._spans else span_in(self._stages, part)

    def ahead(self, one, other):
        """Whether both PARTs have a span, and that of one ends ahead of that of the other."""
        _check_parts(self._schema, (one, other))
        return is_ahead(self.span(one), self.span(other))

    def open_at(self, place):
        """The set of the members of parts whose span reaches from ahead of a place to it or beyond."""
        if not 0 <= place <= len(self._stages):
            raise NoPlace(place)
        return tuple([part for part, (first, last) in self._spans.items() if first < place <= last])

    def __len__(self):
        return len(self._stages)

    def __bool__(self):
        return any([len(stage) > 0 for stage in self._stages])

    def __getitem__(self, place):
        if not 0 <= place < len(self._stages):
            raise NoPlace(place)
        return self._stages[place]

    def __iter__(self):
        raise TypeError("a Pipeline is not iterated over")

    def __contains__(self, field):
        return any([field in stage for stage in self._stages])

    def __rshift__(self, other):
        if isinstance(other, Stage):
            return Pipeline(self._schema, self._stages + (other,))
        if not isinstance(other, Pipeline):
            return NotImplemented
        check_same_keys(self, other)
        return Pipeline(self._schema, self._stages + other.stages)

    def __pow__(self, other):
        return Pipeline(self._schema, self._stages * other)

    def __invert__(self):
        return Pipeline(self._schema, self._stages[::-1])

    def __eq__(self, other):
        return isinstance(other, Pipeline) and self._schema == other._schema and _are_alike(self, other)

    def __le__(self, other):
        if not isinstance(other, Pipeline):
            return NotImplemented
        check_same_keys(self, other)
        return len(parts_apart(self, other)) == 0

    def __lt__(self, other):
        if not isinstance(other, Pipeline):
            return NotImplemented
        return self <= other and not other <= self

    def __call__(self, row, turns):
        return rows_by_turns(self, row, turns)[-1]


def rows_by_turns(p, row, turns):
    """The rows ahead of, between and behind the stages, if row goes through them by these TURNS."""
    rows = [tupled(row)]
    for place, stage in enumerate(p.stages):
        rows.append(_poured_at(place, stage, rows[-1], turns))
    if len(turns) > len(p):
        raise BadTurns(len(p))
    return tuple(rows)


def built(keys, names, pairs):
    """The plain Pipeline with just these names as its parts, and just these pairs ahead; None if there is none."""
    for name in names:
        if name not in all_names(keys):
            raise NoName(name)
    names = tuple(names)
    pairs = tuple([(one, other) for one, other in pairs])
    bits = bits_of(names)
    before = {name: sum([bits[ahead] for ahead in names if (ahead, name) in pairs]) for name in names}
    made = Pipeline(keys, fields_by_levels(bits, before)).plain
    if made.parts != names:
        return None
    for one in names:
        for other in names:
            if made.ahead(one, other) != ((one, other) in pairs):
                return None
    return made


def _staged(keys, stages):
    for stage in stages:
        if isinstance(stage, Stage) and stage.schema != keys:
            raise MixedKeys()
    return tuple([stage if isinstance(stage, Stage) else Stage(keys, stage) for stage in stages])


def _check_parts(keys, parts):
    for part in parts:
        if not is_part(part):
            raise BadField(part)
    for part in parts:
        name, _ = field_of(part)
        if name not in all_names(keys):
            raise NoName(name)


def _are_alike(one, other):
    return one <= other and other <= one


def _poured_at(place, stage, row, turns):
    if place == len(turns):
        raise BadTurns(place)
    order = turns[place]
    try:
        return pour(stage, row, order)
    except BadTurns:
        # The place in the turns of the whole is told, not the one in these TURNS.
        raise BadTurns(place) from None
