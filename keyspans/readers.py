"""Readers: what one who sees only the lanes of a Stage can tell of a Pipeline; and records that are lost on the way."""

from keyspans.carry import first_fault
from keyspans.errors import BadRun, BadView
from keyspans.given import may_come
from keyspans.lanes import is_row, lanes, passes
from keyspans.pipelines import Pipeline
from keyspans.spans import is_ahead
from keyspans.stages import Stage, check_same_keys
from keyspans.values import numbers_of, tupled


def seen(reader, row):
    """The VIEW of a ROW: the numbers of each lane, by the first one of each."""
    return tuple(sorted(set([numbers_of(lane) for lane in lanes(reader, row)])))


def same_for(p, q, reader, *, source=None):
    """Whether a reader can be shown the same VIEWs by two Pipelines, for all ROWs."""
    ahead = Pipeline(p.schema, () if source is None else (source,))
    return ahead >> p >> reader == ahead >> q >> reader


def hiding_stage(p, q):
    """The least Stage such that readers from it on cannot tell the two Pipelines apart."""
    check_same_keys(p, q)
    parts = sorted(set(p.parts + q.parts))
    mine = {part: p.span(part) for part in parts}
    yours = {part: q.span(part) for part in parts}
    return Stage(p.schema, [part for part in parts if _tells_apart(part, mine, yours)])


def hiding_source(p, q):
    """The least Stage such that the two Pipelines let out the same behind a source from it on."""
    return hiding_stage(~p, ~q)


def may_show(p, row, reader, view):
    """A RUN of p from row to a ROW of which the reader has a VIEW, None if there is none."""
    check_same_keys(p, reader)
    wanted = tupled(view)
    if not _is_view(reader, row, wanted):
        raise BadView()
    # A stage that looks at what the reader looks at leads from each ROW with this VIEW to one and the same.
    run = may_come(p >> reader, row, [number for lane in wanted for number in lane])
    return None if run is None else run[:-1]


def is_lossy(p, thing):
    """Whether a thing is a LOSSY RUN of p."""
    if not isinstance(thing, tuple) or not all([is_row(p.schema, row) for row in thing]):
        return False
    return first_fault(p, thing, _may_follow) is None


def late_losses(p, run):
    """A RUN of p that loses nothing, and is the LOSSY RUN without what this has lost by then."""
    rows = tupled(run)
    fault = first_fault(p, rows, _may_follow)
    if fault is not None:
        raise BadRun(fault)
    made = [rows[0]]
    for stage, row in zip(p.stages, rows[1:]):
        made.append(_with_lost(stage, made[-1], row))
    return tuple(made)


def _tells_apart(part, mine, yours):
    # Whether a reader who does not look at a PART can tell two Pipelines apart, by their spans of all PARTs.
    if mine[part] is None or yours[part] is None:
        return True
    for other in mine:
        ahead = (is_ahead(mine[part], mine[other]), is_ahead(yours[part], yours[other]))
        both = mine[other] is not None and yours[other] is not None
        # What one of the two lacks is taken as behind all.
        if other != part and (ahead[0] != ahead[1] if both else ahead == (False, False)):
            return True
    return False


def _is_view(reader, row, view):
    # Whether a VIEW has the lanes of a row, in the order of their first numbers, each in some order.
    numbers = {record[0]: record for record in tupled(row)}
    named = [number for lane in view for number in lane]
    if len(named) != len(numbers) or set(named) != set(list(numbers)):
        return False
    return seen(reader, [numbers[number] for number in named]) == view


def _may_follow(stage, row, out):
    # Whether a Stage lets out come from what is left of row when some of its records are lost.
    return passes(stage, [record for record in row if record in out], out)


def _with_lost(stage, row, out):
    # What a Stage lets come from row so that out is left of it: each record that is left brings along what is lost
    # ahead of it in its lane.
    made = []
    for record in out:
        lane = [other for other in row if other not in made and stage.same(other, record)]
        made.extend(lane[:lane.index(record) + 1])
    return (*made, *[record for record in row if record not in made])
