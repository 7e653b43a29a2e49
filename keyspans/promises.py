"""Promises: which records stay in order for all rows; restorers, which put them in order again; lines of both."""

from keyspans.errors import Descending, MixedKeys, NoPlace, NoRecord
from keyspans.lanes import pour
from keyspans.pipelines import Pipeline
from keyspans.stages import Stage, check_same_keys
from keyspans.values import numbers_of, tupled


class Promise:
    """That RECORDs of one lane of a Stage come out in the order in which they went in."""

    def __init__(self, stage):
        self._stage = stage

    @property
    def stage(self):
        """The Stage."""
        return self._stage

    def broken(self, pipeline):
        """A RUN in which two RECORDs of one lane come out exchanged, None if the Pipeline keeps the Stage."""
        place = _first_beyond(pipeline, self._stage)
        if place is None:
            return None
        one, other = self._stage ^ pipeline[place]
        return tuple([(one, other) if at <= place else (other, one) for at in range(len(pipeline) + 1)])

    def __call__(self, pipeline):
        return _first_beyond(pipeline, self._stage) is None

    def __le__(self, other):
        if not isinstance(other, Promise):
            return NotImplemented
        return self._stage <= other.stage

    def __lt__(self, other):
        if not isinstance(other, Promise):
            return NotImplemented
        return self._stage < other.stage

    def __eq__(self, other):
        return isinstance(other, Promise) and self._stage == other.stage

    def __and__(self, other):
        if not isinstance(other, Promise):
            return NotImplemented
        return Promise(self._stage & other.stage)

    @staticmethod
    def least(pipeline):
        """The least Promise that a Pipeline keeps."""
        return Promise(_joined_stage(pipeline))


class Restorer:
    """Spreads RECORDs over lanes as a Stage does; each lane lets them out in the order of their numbers."""

    def __init__(self, stage):
        self._stage = stage

    @property
    def stage(self):
        """The Stage."""
        return self._stage

    def __call__(self, row, turns):
        records = tupled(row)
        order = sorted(set([(number, at) for at, number in enumerate(numbers_of(records))]))
        return pour(self._stage, [records[at] for _, at in order], turns)

    def __eq__(self, other):
        return isinstance(other, Restorer) and self._stage == other.stage


class Line:
    """Stages and Restorers in the order in which records go through them."""

    def __init__(self, keys, items):
        for item in items:
            if _stage_of(item).schema != keys:
                raise MixedKeys()
        self._schema = keys
        self._steps = tuple(items)

    @property
    def schema(self):
        """The Keys."""
        return self._schema

    @property
    def steps(self):
        """The tuple of the items."""
        return self._steps

    @property
    def text(self):
        """The text from which Line.of makes these items."""
        return "; ".join([_text_of(item) for item in self._steps])

    @property
    def last(self):
        """The place of the last Restorer, None if there is none."""
        places = [place for place, item in enumerate(self._steps) if isinstance(item, Restorer)]
        return places[-1] if len(places) > 0 else None

    @property
    def pipeline(self):
        """The Pipeline that lets out what the Line lets out."""
        # What stands ahead of a Restorer does not matter: it has the records in order again.
        return Pipeline(self._schema, [_stage_of(item) for item in self._steps[_first_that_counts(self):]])

    def put(self, place, stage):
        """The Line with a Restorer of a Stage put in at a place."""
        check_same_keys(self, stage)
        if not 0 <= place <= len(self._steps):
            raise NoPlace(place)
        return Line(self._schema, self._steps[:place] + (Restorer(stage),) + self._steps[place:])

    def __len__(self):
        return len(self._steps)

    def __call__(self, row, turns):
        rows = [tupled(row)]
        numbers = numbers_of(rows[0])
        for ahead, number in zip(numbers, numbers[1:]):
            if number < ahead:
                raise Descending(number)
        for place, item in enumerate(self._steps):
            rows.append(_let_out(item, rows[-1], turns[place]))
        return tuple(rows)

    def __le__(self, other):
        if not isinstance(other, Line):
            return NotImplemented
        return self.pipeline <= other.pipeline

    def __eq__(self, other):
        return isinstance(other, Line) and self.pipeline == other.pipeline

    @staticmethod
    def of(keys, text):
        """The Line of the Stages and Restorers in a text."""
        pieces = text.split("; ") if text != "" else []
        return Line(keys, [_item_in(keys, piece) for piece in pieces])


def places_of(pipeline, row, number):
    """The least and the greatest place at which a RECORD can stand in what comes out."""
    at = _place_in(row, number)
    joined = _joined_stage(pipeline)
    ahead = [record for record in row[:at] if joined.same(record, row[at])]
    behind = [record for record in row[at + 1:] if joined.same(record, row[at])]
    return len(ahead), len(row) - 1 - len(behind)


def run_to(pipeline, row, number, place):
    """A RUN at whose end a RECORD stands at a place."""
    least, greatest = places_of(pipeline, row, number)
    if not least <= place <= greatest:
        raise NoPlace(place)
    rows = [tupled(row)]
    for stage in pipeline.stages:
        rows.append(_moved(stage, rows[-1], number, place))
    return tuple(rows)


def mends(line, promise):
    """The set of the places at which a Restorer of the Promise's Stage makes the Line keep it."""
    check_same_keys(line, promise.stage)
    counting = range(_first_that_counts(line), len(line))
    bad = [place for place in counting if not _stage_of(line.steps[place]) <= promise.stage]
    first = bad[-1] + 1 if len(bad) > 0 else 0
    return tuple(range(first, len(line) + 1))


def _first_beyond(pipeline, stage):
    # The first place of a Pipeline whose Stage is not <= a Stage, None if the Pipeline keeps it.
    check_same_keys(pipeline, stage)
    places = [place for place, own in enumerate(pipeline.stages) if not own <= stage]
    return places[0] if len(places) > 0 else None


def _joined_stage(pipeline):
    joined = Stage(pipeline.schema, ())
    for stage in pipeline.stages:
        joined = joined | stage
    return joined


def _first_that_counts(line):
    # The place of the last Restorer, of the first item if there is none.
    last = line.last
    return 0 if last is None else last


def _stage_of(item):
    return item.stage if isinstance(item, Restorer) else item


def _text_of(item):
    return "=" + item.stage.text if isinstance(item, Restorer) else item.text


def _item_in(keys, piece):
    return Restorer(Stage.of(keys, piece[1:])) if piece.startswith("=") else Stage.of(keys, piece)


def _let_out(item, row, turns):
    return item(row, turns) if isinstance(item, Restorer) else pour(item, row, turns)


def _place_in(row, number):
    numbers = numbers_of(row)
    if number not in numbers:
        raise NoRecord(number)
    return numbers.index(number)


def _moved(stage, row, number, place):
    # The row behind a Stage in which a RECORD comes as near to a place as this Stage lets it.
    at = _place_in(row, number)
    if at < place:
        # The same, looked at from the other end.
        return _moved_ahead(stage, row[::-1], len(row) - 1 - at, place - at)[::-1]
    return _moved_ahead(stage, row, at, at - place)


def _moved_ahead(stage, row, at, many):
    # The RECORD at a place goes past so many others of other lanes, the nearest ones, or all if they are fewer.
    others = [place for place in range(at) if not stage.same(row[place], row[at])]
    passed = others[max(0, len(others) - many):]
    ahead = [row[place] for place in range(at) if place not in passed]
    return (*ahead, row[at], *[row[place] for place in passed], *row[at + 1:])
