"""Logs: what rows that went in and came out tell of the Pipeline between, and which of them tell the most."""

from keyspans.corners import corner_row, period_of
from keyspans.errors import BadLog, MissingPart, MixedKeys, NoFit, NoForm, NoName, NoPlace
from keyspans.forms import forms_over
from keyspans.given import lets_out
from keyspans.keys import all_names, field_of
from keyspans.labels import clashes, labels_over
from keyspans.pipelines import built
from keyspans.spans import is_ahead
from keyspans.stages import Stage, check_same_keys
from keyspans.values import numbers_of, tupled


class Logs:
    """LOGs: pairs of a row that went in and of what came out of it."""

    def __init__(self, keys, logs=()):
        self._schema = keys
        self._logs = _without_doubles(logs)

    @property
    def schema(self):
        """The Keys."""
        return self._schema

    def turned(self, k):
        """The pairs of numbers of the LOG at place k that stand the other way about in what came out."""
        row, out = self[k]
        numbers = numbers_of(row)
        places = {number: at for at, number in enumerate(numbers_of(out))}
        pairs = [(one, other) for at, one in enumerate(numbers) for other in numbers[at + 1:]]
        return tuple([(one, other) for one, other in pairs if places[other] < places[one]])

    def misfit(self, p):
        """The least place of a LOG that p does not fit, None if it fits all."""
        check_same_keys(self, p)
        return _first_misfit(self._logs, p)

    def least_forms(self, names):
        """The forms over names that fit, and than which none that fits is less, by their texts."""
        fitting = {form.text: form for form in self._fitting(names)}
        least = [text for text, form in fitting.items() if not any([other < form for other in fitting.values()])]
        return tuple([fitting[text] for text in sorted(set(least))])

    def sure(self, names):
        """The names that all forms that fit use, and the pairs of them that none has ahead."""
        forms = self._fitting(names)
        if len(forms) == 0:
            raise NoFit()
        used = [name for name in sorted(set(names)) if all([name in form.parts for form in forms])]
        pairs = [(one, other) for one in used for other in used if one != other]
        mixed = [(one, other) for one, other in pairs if not any([form.ahead(one, other) for form in forms])]
        return tuple(used), tuple(mixed)

    def _fitting(self, names):
        # The forms over names that fit all LOGs; those with fewer stages first.
        _check_names(self._schema, names)
        return [form for form in forms_over(self._schema, names) if _first_misfit(self._logs, form) is None]

    def __len__(self):
        return len(self._logs)

    def __getitem__(self, place):
        if not 0 <= place < len(self._logs):
            raise NoPlace(place)
        return self._logs[place]

    def __iter__(self):
        raise TypeError("Logs are not iterated over")

    def __contains__(self, log):
        return tupled(log) in self._logs

    def __add__(self, other):
        if not isinstance(other, Logs):
            return NotImplemented
        check_same_keys(self, other)
        return Logs(self._schema, self._logs + other._logs)

    def __eq__(self, other):
        return isinstance(other, Logs) and self._schema == other._schema and set(self._logs) == set(other._logs)

    @staticmethod
    def sent(p, pairs):
        """The LOGs of rows that go through p by these turns."""
        return Logs(p.schema, [(row, p(row, turns)) for row, turns in pairs])


def question(keys, label):
    """The LOG that asks a LABEL: only what uses the name, or has the first name not ahead of the second, fits it."""
    _check_names(keys, label)
    corners = ((0, 0), (1, 0)) if len(label) == 1 else ((0, 0), (0, 1), (1, 1), (1, 0))
    columns = [_column(keys, name, label, corners) for name in keys.names]
    row = tuple([(at, tuple([column[at] for column in columns])) for at in range(len(corners))])
    return row, row[1:] + row[:1]


def learned(keys, names, labels):
    """The form over names that fits the questions of just these LABELs."""
    asked = tupled(labels)
    if why_no_form(keys, names, asked) is not None:
        raise NoForm()
    used = [name for name in sorted(set(names)) if (name,) in asked]
    pairs = [label for label in labels_over(keys, used) if len(label) == 2 and label not in asked]
    return built(keys, used, pairs)


def why_no_form(keys, names, labels):
    """At most four LABELs over names such that no form fits just those of them that are in labels; None if one does."""
    _check_names(keys, names)
    asked = tupled(labels)
    for fitted, unfitted in clashes(keys, names):
        if all([label in asked for label in fitted]) and not any([label in asked for label in unfitted]):
            return tuple(sorted(set(fitted + unfitted)))
    return None


def best_question(keys, names, forms):
    """The LABEL that parts the forms most evenly, None if all are alike."""
    for form in forms:
        if form.schema != keys:
            raise MixedKeys()
    _check_names(keys, names)
    if all([form == forms[0] for form in forms]):
        return None
    spans = [{name: form.span(name) for name in names} for form in forms]
    best, least = None, len(forms) + 1
    for label in labels_over(keys, names):
        fitting = len([own for own in spans if _fits(own, label)])
        rest = len(forms) - fitting
        greater = fitting if fitting > rest else rest
        if greater < least:
            best, least = label, greater
    return best


def sample(p, parts):
    """LOGs that a Pipeline of these PARTs fits exactly if p is <= it."""
    names = all_names(p.schema)
    numbers = [field_of(part) for part in parts]
    for name, _ in numbers:
        if name not in names:
            raise NoName(name)
    for part in p.parts:
        if part not in parts:
            raise MissingPart(part)
    periods = {name: period_of([m for other, m in numbers if other == name]) for name in names}
    logs = []
    for label in _sample_labels(p):
        row = corner_row(p.schema, periods, label)
        logs.append((row, row[1:] + row[:1]))
    return Logs(p.schema, logs)


def _without_doubles(logs):
    kept = {}
    for at, (row, out) in enumerate(tupled(logs)):
        if set(row) != set(out):
            raise BadLog(at)
        kept[(row, out)] = True
    return tuple(kept)


def _check_names(keys, names):
    for name in names:
        if name not in keys:
            raise NoName(name)


def _first_misfit(logs, p):
    # The least place of a LOG that a Pipeline does not fit, None if it fits all.
    plain = p.plain
    for at, (row, out) in enumerate(logs):
        if not lets_out(plain, row, out):
            return at
    return None


def _column(keys, name, label, corners):
    # The values of a name: two are alike where the corners are, as far as they are those of a name that it tells.
    along = [at for at, asked in enumerate(label) if name == asked or keys.tells(name, asked)]
    kinds = []
    column = []
    for corner in corners:
        kind = [corner[at] for at in along]
        if kind not in kinds:
            kinds.append(kind)
        column.append(kinds.index(kind))
    return column


def _fits(spans, label):
    # Whether a form with these spans of its names fits the question of a LABEL.
    one, other = spans[label[0]], spans[label[-1]]
    return one is not None and other is not None and not is_ahead(one, other)


def _sample_labels(p):
    # What the LOGs of a sample ask: each PART, and each two that are not ahead. Of two PARTs one of which brings
    # the other along, none is ever ahead.
    labels = [(part,) for part in p.parts]
    for one in p.parts:
        for other in p.parts:
            along = one in Stage(p.schema, (other,)) or other in Stage(p.schema, (one,))
            if not along and not p.ahead(one, other):
                labels.append((one, other))
    return labels
