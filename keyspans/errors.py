"""The errors of the package: each one keeps the values that tell what is wrong."""


class NoName(LookupError):
    """A name that is none of the Keys."""

    def __init__(self, name):
        LookupError.__init__(self, name)
        self.name = name


class NoPlace(LookupError):
    """A place at which nothing stands."""

    def __init__(self, place):
        LookupError.__init__(self, place)
        self.place = place


class NoPart(LookupError):
    """A PART that no stage has."""

    def __init__(self, part):
        LookupError.__init__(self, part)
        self.part = part


class NoRecord(LookupError):
    """A number that no RECORD of the row has."""

    def __init__(self, number):
        LookupError.__init__(self, number)
        self.number = number


class NoService(LookupError):
    """A name that no service has."""

    def __init__(self, name):
        LookupError.__init__(self, name)
        self.name = name


class NoLimit(LookupError):
    """A name that no limit has."""

    def __init__(self, name):
        LookupError.__init__(self, name)
        self.name = name


class BadField(ValueError):
    """A text that is not a FIELD, or not a PART where one is needed."""

    def __init__(self, field):
        ValueError.__init__(self, field)
        self.field = field


class BadLine(ValueError):
    """The number of a line that is not written as it must be."""

    def __init__(self, number):
        ValueError.__init__(self, number)
        self.number = number


class BadTurns(ValueError):
    """The place at which turns go wrong."""

    def __init__(self, place):
        ValueError.__init__(self, place)
        self.place = place


class BadRun(ValueError):
    """The place at which rows are no RUN."""

    def __init__(self, place):
        ValueError.__init__(self, place)
        self.place = place


class BadView(ValueError):
    """A view that no reader can have of the row."""

    def __init__(self):
        ValueError.__init__(self)


class BadLog(ValueError):
    """The place of a pair of rows with different records."""

    def __init__(self, place):
        ValueError.__init__(self, place)
        self.place = place


class BadOrder(ValueError):
    """An order in which a service is missing."""

    def __init__(self):
        ValueError.__init__(self)


class Ringed(ValueError):
    """The names that would tell themselves."""

    def __init__(self, ring):
        ValueError.__init__(self, ring)
        self.ring = ring


class MixedKeys(ValueError):
    """Objects whose Keys are not equal."""

    def __init__(self):
        ValueError.__init__(self)


class Doubled(ValueError):
    """A number that stands twice."""

    def __init__(self, number):
        ValueError.__init__(self, number)
        self.number = number


class Unlawful(ValueError):
    """Two RECORDs alike in a name but not in all that it tells."""

    def __init__(self, first, second, name):
        ValueError.__init__(self, first, second, name)
        self.first = first
        self.second = second
        self.name = name


class Descending(ValueError):
    """A number below the one ahead of it."""

    def __init__(self, number):
        ValueError.__init__(self, number)
        self.number = number


class NotWithin(ValueError):
    """A Pipeline that is not within the other one."""

    def __init__(self):
        ValueError.__init__(self)


class NoLeast(ValueError):
    """Two Pipelines above the others, and none below both."""

    def __init__(self, first, second):
        ValueError.__init__(self, first, second)
        self.first = first
        self.second = second


class NoOrder(ValueError):
    """Services that must each stand ahead of the next, in a ring."""

    def __init__(self, ring):
        ValueError.__init__(self, ring)
        self.ring = ring


class Unused(ValueError):
    """A service with a PART that a target has not."""

    def __init__(self, service, target):
        ValueError.__init__(self, service, target)
        self.service = service
        self.target = target


class NoFit(ValueError):
    """Logs that no form fits."""

    def __init__(self):
        ValueError.__init__(self)


class NoForm(ValueError):
    """Labels that no form answers to."""

    def __init__(self):
        ValueError.__init__(self)


class MissingPart(ValueError):
    """A PART of the Pipeline that is none of the given ones."""

    def __init__(self, part):
        ValueError.__init__(self, part)
        self.part = part


class TooManyLevels(ValueError):
    """A plain form with more than two stages."""

    def __init__(self, many):
        ValueError.__init__(self, many)
        self.many = many


class Outside(ValueError):
    """A limit that a deed would leave."""

    def __init__(self, name):
        ValueError.__init__(self, name)
        self.name = name


class Taken(ValueError):
    """A name that a service has already."""

    def __init__(self, name):
        ValueError.__init__(self, name)
        self.name = name


class Stopped(ValueError):
    """The deed at which an attempt stopped, and the error there."""

    def __init__(self, number, word, value):
        ValueError.__init__(self, number, word, value)
        self.number = number
        self.word = word
        self.value = value
