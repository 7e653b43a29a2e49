"""Stages: what a service looks at when it spreads records over lanes."""

from math import gcd, lcm

from keyspans.errors import MixedKeys, NoName
from keyspans.keys import all_names, field_of, field_text, is_field, words_of


class Stage:
    """For each name and for "#" the number by which a service looks at its value."""

    def __init__(self, keys, fields):
        self._schema = keys
        # By the names, "#" first: lane() goes through them in this order.
        self._numbers = _closed(keys, _joined(keys, fields))

    @property
    def schema(self):
        """The Keys."""
        return self._schema

    @property
    def fields(self):
        """The set of the FIELDs in the plain writing."""
        whole = [name for name, m in self._numbers.items() if m == 0]
        told = [other for name in whole for other in self._schema.told(name)]
        shown = [name for name, m in self._numbers.items() if m != 1 and name not in told]
        return tuple(sorted(set([field_text(name, self._numbers[name]) for name in shown])))

    @property
    def text(self):
        """The FIELDs of the plain writing with blanks between, "-" without any."""
        return " ".join(self.fields) or "-"

    def lane(self, record):
        """What the Stage looks at in a RECORD."""
        number, values = record
        worths = (number, *values)
        seen = [(worth, m) for m, worth in zip(self._numbers.values(), worths) if m != 1]
        return tuple([worth if m == 0 else worth % m for worth, m in seen])

    def same(self, one, other):
        """Whether two RECORDs have equal lanes."""
        return self.lane(one) == self.lane(other)

    def __getitem__(self, name):
        if name not in self._numbers:
            raise NoName(name)
        return self._numbers[name]

    def __iter__(self):
        raise TypeError("a Stage is not iterated over")

    def __contains__(self, field):
        if not is_field(field):
            return False
        name, m = field_of(field)
        return name in self._numbers and _divides(m, self._numbers[name])

    def __len__(self):
        return len([m for m in self._numbers.values() if m != 1])

    def __eq__(self, other):
        return isinstance(other, Stage) and self._schema == other._schema and self._numbers == other._numbers

    def __le__(self, other):
        if not isinstance(other, Stage):
            return NotImplemented
        check_same_keys(self, other)
        return all([_divides(m, other[name]) for name, m in self._numbers.items()])

    def __lt__(self, other):
        if not isinstance(other, Stage):
            return NotImplemented
        return self <= other and not self == other

    def __or__(self, other):
        if not isinstance(other, Stage):
            return NotImplemented
        check_same_keys(self, other)
        return stage_of_numbers(self._schema, [(name, lcm(m, other[name])) for name, m in self._numbers.items()])

    def __and__(self, other):
        if not isinstance(other, Stage):
            return NotImplemented
        check_same_keys(self, other)
        return stage_of_numbers(self._schema, [(name, gcd(m, other[name])) for name, m in self._numbers.items()])

    def __xor__(self, other):
        if not isinstance(other, Stage):
            return NotImplemented
        if not other <= self:
            return _parted(self, other)
        if not self <= other:
            return _parted(other, self)
        return None

    @staticmethod
    def of(keys, text):
        """The Stage of the FIELDs in a text."""
        words = words_of(text)
        if words == ["-"]:
            words = []
        return Stage(keys, words)


def _joined(keys, fields):
    # All FIELDs are read ahead of the names: a text that is no FIELD is told first.
    pairs = [field_of(field) for field in fields]
    numbers = {}
    for name in all_names(keys):
        numbers[name] = 1
    for name, m in pairs:
        if name not in numbers:
            raise NoName(name)
        numbers[name] = lcm(numbers[name], m)
    return numbers


def _closed(keys, numbers):
    # One pass is enough: what a told name tells is told by the name ahead of it, too.
    told = [other for name, m in numbers.items() if m == 0 for other in keys.told(name)]
    return {name: 0 if name in told else m for name, m in numbers.items()}


def _divides(m, number):
    return number == 0 or (m != 0 and number % m == 0)


def stage_of_numbers(keys, pairs):
    """The Stage with these numbers, in pairs with their names."""
    return Stage(keys, [field_text(name, m) for name, m in pairs if m != 1])


def check_same_keys(one, other):
    """Raises MixedKeys unless the Keys of two objects are equal."""
    if one.schema != other.schema:
        raise MixedKeys()


def _parted(one, other):
    # Two RECORDs that one has in one lane and other has not; other <= one does not hold.
    keys = one.schema
    apart = [name for name in all_names(keys) if not _divides(other[name], one[name])][0]
    moved = [name for name in keys.names if name == apart or keys.tells(name, apart)]
    values = tuple([one[name] if name in moved else 0 for name in keys.names])
    return (0, (0,) * len(keys)), (one["#"], values)
