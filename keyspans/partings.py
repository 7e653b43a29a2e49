"""Partings: rows that show that one Pipeline lets out what another one does not."""

from keyspans.carry import is_run
from keyspans.corners import corner_row, period_of
from keyspans.errors import NoPart
from keyspans.given import all_outs, run_to_order
from keyspans.keys import all_names
from keyspans.spans import parts_apart, span_in
from keyspans.stages import check_same_keys
from keyspans.values import numbers_of, tupled

# Longer rows are not looked through.
_MOST = 5


class Parting:
    """A RUN of one Pipeline whose last row never comes out of another, and the PARTs that the two differ by."""

    def __init__(self, run, parts):
        self._run = tupled(run)
        self._parts = tupled(parts)

    @property
    def run(self):
        """The RUN."""
        return self._run

    @property
    def parts(self):
        """The PARTs, at most two."""
        return self._parts

    @property
    def row(self):
        """The first ROW of the RUN."""
        return self._run[0]

    @property
    def out(self):
        """The last ROW of the RUN."""
        return self._run[-1]

    def cut(self, q):
        """The place of the last stage of q that has the first PART, None if there are fewer than two."""
        if len(self._parts) < 2:
            return None
        span = span_in(q.stages, self._parts[0])
        if span is None:
            raise NoPart(self._parts[0])
        return span[1]

    def __len__(self):
        return len(self._run[0])

    def __eq__(self, other):
        return isinstance(other, Parting) and self._run == other._run and self._parts == other._parts


def parting(p, q):
    """A Parting of p from q with the fewest records, None if p <= q."""
    check_same_keys(p, q)
    parts = parts_apart(p, q)
    if len(parts) == 0:
        return None
    row = corner_row(p.schema, _periods(p, q), parts)
    return Parting(_run_of_two(p, parts, row) if len(parts) == 1 else _run_of_four(p, parts, row), parts)


def is_parting(p, q, thing):
    """Whether a thing is a Parting by a RUN of p, of few records, whose out never comes out of q."""
    check_same_keys(p, q)
    if not isinstance(thing, Parting) or not is_run(p, thing.run) or len(thing) > _MOST:
        return False
    return numbers_of(thing.out) not in all_outs(q, thing.row)


def parted_on(p, q, row):
    """A Parting by this row with the least order that comes out of p and not of q, None if there is none."""
    check_same_keys(p, q)
    barred = all_outs(q, row)
    for order in all_outs(p, row):
        if order not in barred:
            return Parting(run_to_order(p, row, order), ())
    return None


def _periods(p, q):
    return {name: period_of([stage[name] for stage in p.stages + q.stages]) for name in all_names(p.schema)}


def _run_of_two(p, parts, row):
    first, _ = p.span(parts[0])
    return [row if at <= first else row[::-1] for at in range(len(p) + 1)]


def _run_of_four(p, parts, row):
    # x and y go apart where the second PART comes first, x and the others where the first PART comes last.
    x, y, z, u = row
    first, last = p.span(parts[1])[0], p.span(parts[0])[1]
    rows = []
    for at in range(len(p) + 1):
        if at <= first:
            rows.append(row)
        elif at <= last:
            rows.append((y, x, z, u))
        else:
            rows.append((y, z, u, x))
    return rows
