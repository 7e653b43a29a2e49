"""Board: services that stand one behind another, and limits within which they stay."""

from keyspans.above import arrange
from keyspans.edits import word_of_change
from keyspans.errors import (
    BadField, BadOrder, BadTurns, MixedKeys, NoLimit, NoName, NoPlace, NoService, Outside, Stopped, Taken)
from keyspans.pipelines import Pipeline
from keyspans.stages import Stage
from keyspans.values import tupled


class Board:
    """Services with their Stages, limits, and logs of what was sent; its deeds can be taken back."""

    def __init__(self, keys):
        self._schema = keys
        # Nothing in these tuples ever changes: a state that is kept stays as it was.
        self._services = ()
        self._limits = ()
        self._logs = ()
        # The states ahead of the deeds that are not taken back.
        self._past = []

    @property
    def schema(self):
        """The Keys."""
        return self._schema

    @property
    def pipeline(self):
        """The Pipeline of the services' Stages."""
        return _pipeline_of(self._schema, self._services)

    @property
    def order(self):
        """The names of the services, as they stand."""
        return tuple([name for name, _ in self._services])

    @property
    def limits(self):
        """The pairs of the name and the text of each limit, by name."""
        return tuple([(name, pipeline.text or "-") for name, pipeline in self._limits])

    @property
    def logs(self):
        """The pairs of a row that was sent and of what came out."""
        return self._logs

    def leave(self, name):
        """The service is there no more."""
        self._check_service(name)
        self._stand([service for service in self._services if service[0] != name])

    def move(self, name, place):
        """The service stands at this place from now on."""
        self._check_service(name)
        if not 0 <= place < len(self._services):
            raise NoPlace(place)
        others = [service for service in self._services if service[0] != name]
        self._stand([*others[:place], (name, self[name]), *others[place:]])

    def reorder(self, names):
        """The services stand in the order of these names from now on."""
        for at, name in enumerate(names):
            if name not in self or name in names[:at]:
                raise NoService(name)
        if len(names) < len(self._services):
            raise BadOrder()
        self._stand([(name, self[name]) for name in names])

    def arrange(self):
        """The services stand in the least order within all limits from now on; returns it."""
        names = sorted(set(self.order))
        targets = [pipeline for _, pipeline in self._limits]
        places = arrange([self[name] for name in names], targets)
        self.reorder([names[place] for place in places])
        return self.order

    def limit(self, name, pipeline):
        """The services are within this Pipeline from now on."""
        if not self.pipeline <= pipeline:
            raise Outside(name)
        others = [own for own in self._limits if own[0] != name]
        ahead = [own for own in others if own[0] < name]
        self._become(self._services, (*ahead, (name, pipeline), *others[len(ahead):]), self._logs)

    def lift(self, name):
        """The limit is there no more."""
        if name not in [own for own, _ in self._limits]:
            raise NoLimit(name)
        self._become(self._services, tuple([own for own in self._limits if own[0] != name]), self._logs)

    def effect(self, name, fields):
        """What it would do to the pipeline to set the Stage of a service: same, less, more or neither."""
        changed = self._with_service(name, Stage(self._schema, fields))
        return word_of_change(self.pipeline, _pipeline_of(self._schema, changed))

    def send(self, row, turns):
        """The row that comes out by these TURNS; it is kept in the logs."""
        pipeline = self.pipeline
        out = pipeline(row, turns)
        self._become(self._services, self._limits, (*self._logs, (tupled(row), out)))
        return out

    def attempt(self, deeds):
        """Does all of these deeds, or none; returns what each returns."""
        trial = self.twin()
        returned = tuple([_done(trial, number, deed) for number, deed in enumerate(deeds)])
        self._become(trial._services, trial._limits, trial._logs)
        return returned

    def undo(self):
        """Takes back the last deed that is not taken back; whether there was one."""
        if len(self._past) == 0:
            return False
        self._services, self._limits, self._logs = self._past.pop()
        return True

    def twin(self):
        """A Board in the same state, also for undo."""
        other = self.fresh()
        other._past = list(self._past)
        return other

    def fresh(self):
        """A Board in the same state, with nothing to undo."""
        other = Board(self._schema)
        other._services, other._limits, other._logs = self._services, self._limits, self._logs
        return other

    def __getitem__(self, name):
        self._check_service(name)
        return [stage for own, stage in self._services if own == name][0]

    def __setitem__(self, name, fields):
        self._stand(self._with_service(name, Stage(self._schema, fields)))

    def __iadd__(self, other):
        name, fields = other
        if name in self:
            raise Taken(name)
        self[name] = fields
        return self

    def __iter__(self):
        raise TypeError("a Board is not iterated over")

    def __contains__(self, name):
        return name in [own for own, _ in self._services]

    def __len__(self):
        return len(self._services)

    def __eq__(self, other):
        if not isinstance(other, Board) or self._schema != other._schema:
            return False
        return self._services == other._services and self.limits == other.limits and self._logs == other._logs

    def _check_service(self, name):
        if name not in self:
            raise NoService(name)

    def _with_service(self, name, stage):
        # The services, one of them with another Stage; a name that is new stands behind all.
        if name not in self:
            return (*self._services, (name, stage))
        return tuple([(own, stage if own == name else other) for own, other in self._services])

    def _stand(self, services):
        # The services are these from now on, unless that is outside of a limit.
        pipeline = _pipeline_of(self._schema, services)
        for name, within in self._limits:
            if not pipeline <= within:
                raise Outside(name)
        self._become(tuple(services), self._limits, self._logs)

    def _become(self, services, limits, logs):
        self._past.append((self._services, self._limits, self._logs))
        self._services, self._limits, self._logs = services, limits, logs


def _pipeline_of(keys, services):
    return Pipeline(keys, [stage for _, stage in services])


def _done(board, number, deed):
    # What a deed returns; an error is told with the number of the deed.
    try:
        return _do(board, deed)
    except BadField as bad_field:
        raise Stopped(number, "BadField", bad_field.field) from None
    except NoName as no_name:
        raise Stopped(number, "NoName", no_name.name) from None
    except NoService as no_service:
        raise Stopped(number, "NoService", no_service.name) from None
    except NoLimit as no_limit:
        raise Stopped(number, "NoLimit", no_limit.name) from None
    except NoPlace as no_place:
        raise Stopped(number, "NoPlace", no_place.place) from None
    except BadTurns as bad_turns:
        raise Stopped(number, "BadTurns", bad_turns.place) from None
    except Outside as beyond:
        raise Stopped(number, "Outside", beyond.name) from None
    except BadOrder:
        raise Stopped(number, "BadOrder", None) from None
    except MixedKeys:
        raise Stopped(number, "MixedKeys", None) from None


def _do(board, deed):
    word = deed[0]
    if word == "arrange":
        return board.arrange()
    if word == "send":
        return board.send(deed[1], deed[2])
    if word == "set":
        board[deed[1]] = deed[2]
    elif word == "leave":
        board.leave(deed[1])
    elif word == "move":
        board.move(deed[1], deed[2])
    elif word == "order":
        board.reorder(deed[1])
    elif word == "limit":
        board.limit(deed[1], deed[2])
    else:
        board.lift(deed[1])
    return None
