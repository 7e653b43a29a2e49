"""Keys: the names of the values of records, which name tells which, and FIELDs."""

from keyspans.errors import BadField, BadLine, NoName, Ringed
from keyspans.numerals import is_numeral, number_of, written
from keyspans.primes import is_prime_power, prime_powers


def is_name(thing):
    """Whether a thing is a NAME."""
    if not isinstance(thing, str):
        return False
    return 1 <= len(thing) <= 8 and all(["a" <= letter <= "z" for letter in thing])


def is_field(thing):
    """Whether a thing is a FIELD."""
    if not isinstance(thing, str):
        return False
    name, slash, digits = thing.partition("/")
    if name != "#" and not is_name(name):
        return False
    return slash == "" or (is_numeral(digits) and digits not in ("0", "1"))


def is_part(thing):
    """Whether a thing is a PART."""
    if not is_field(thing):
        return False
    _, m = field_of(thing)
    return m == 0 or is_prime_power(m)


def field_of(text):
    """The name and the number of a FIELD, 0 if it is whole."""
    if not is_field(text):
        raise BadField(text)
    name, _, digits = text.partition("/")
    return name, number_of(digits)


def field_text(name, m):
    """The FIELD of a name and a number, 0 for the whole value."""
    if m == 0:
        return name
    return f"{name}/{written(m)}"


def parts_of(text):
    """The set of the PARTs of a FIELD."""
    name, m = field_of(text)
    if m == 0:
        return (name,)
    return tuple(sorted(set([field_text(name, power) for power in prime_powers([m])])))


def all_names(keys):
    """All names of values of records, the number of the record ahead of them."""
    return ("#",) + keys.names


def words_of(line):
    """The words of a line; only blanks part them."""
    return [word for word in line.split(" ") if word != ""]


class Keys:
    """The names of the values of records, and which of them tell which others."""

    def __init__(self, names, tells=()):
        self._names = tuple(sorted(set(names)))
        for pair in tells:
            for name in pair:
                if name not in self._names:
                    raise NoName(name)
        # Each name stands in it, also one that tells none: == looks at nothing else.
        self._told = _all_told(self._names, tells)
        ring = tuple([name for name in self._names if name in self._told[name]])
        if len(ring) > 0:
            raise Ringed(ring)

    @property
    def names(self):
        """The set of the names, without "#"."""
        return self._names

    @property
    def pairs(self):
        """All pairs (one, other) of names such that one tells other, ascending."""
        return tuple([(one, other) for one in self._names for other in self._told[one]])

    @property
    def text(self):
        """The text from which Keys.of makes these Keys."""
        told = [f"{one} tells {other}" for one, other in self.pairs]
        return "\n".join(list(self._names) + told)

    def tells(self, one, other):
        """Whether one tells other."""
        self._check(one)
        self._check(other)
        return other in self.told(one)

    def told(self, name):
        """The set of the names that a name tells."""
        self._check(name)
        if name == "#":
            return self._names
        return self._told[name]

    def _check(self, name):
        if name != "#" and name not in self._names:
            raise NoName(name)

    def __contains__(self, name):
        return name in self._names

    def __len__(self):
        return len(self._names)

    def __eq__(self, other):
        return isinstance(other, Keys) and self._told == other._told

    @staticmethod
    def of(text):
        """The Keys that a text states, line by line."""
        names = []
        pairs = []
        for number, line in enumerate(text.split("\n")):
            stated = _stated(words_of(line))
            if stated is None:
                raise BadLine(number)
            names.extend(stated)
            if len(stated) == 2:
                pairs.append(stated)
        return Keys(names, pairs)


def _stated(words):
    # The names in a line: none, one, or a teller and a told one; None if the line is another one.
    if len(words) == 3 and words[1] == "tells":
        words = [words[0], words[2]]
    elif len(words) > 1:
        return None
    return words if all([is_name(word) for word in words]) else None


def _all_told(names, tells):
    # For each name the set of those that it tells, with those that follow; a name in a ring tells itself.
    told = {}
    for name in names:
        told[name] = [other for teller, other in tells if teller == name]
    for middle in names:
        for name in names:
            if middle in told[name]:
                told[name] = told[name] + [other for other in told[middle] if other not in told[name]]
    return {name: tuple([other for other in names if other in told[name]]) for name in names}
