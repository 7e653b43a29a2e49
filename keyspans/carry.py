"""Runs: the rows between the stages, and how they are carried from one Pipeline to another."""

from keyspans.errors import BadRun, NotWithin
from keyspans.lanes import crossed, is_row, passes, turns_of, value
from keyspans.pipelines import Pipeline, rows_by_turns
from keyspans.spans import filled_stages
from keyspans.stages import check_same_keys
from keyspans.values import tupled


def is_run(p, thing):
    """Whether a thing is a RUN of p."""
    if not isinstance(thing, tuple) or not all([is_row(p.schema, row) for row in thing]):
        return False
    return first_fault(p, thing, passes) is None


def why_no_run(p, rows):
    """The place at which rows are no RUN of p, and the first pair exchanged there; None for a RUN."""
    place = first_fault(p, rows, passes)
    if place is None:
        return None
    if place > len(p) or place == len(rows) or not _same_records(rows[place - 1], rows[place]):
        return place, ()
    return place, crossed(p[place - 1], rows[place - 1], rows[place])


def run_of(p, row, turns):
    """The RUN of p that begins with row and goes on by these TURNS."""
    return rows_by_turns(p, row, turns)


def turns_of_run(p, run):
    """The TURNS by which a RUN of p comes, for each stage."""
    rows = _checked(p, run)
    return tuple([turns_of(stage, rows[place], rows[place + 1]) for place, stage in enumerate(p.stages)])


def only(run, numbers):
    """The rows, each without the RECORDs of other numbers."""
    return tuple([tuple([record for record in row if record[0] in numbers]) for row in tupled(run)])


def filled(p):
    """As many stages as p has, each with the PARTs whose span in p holds its place."""
    return Pipeline(p.schema, filled_stages(p))


def laid(p, q):
    """For each stage of p the place of q at which it is laid, None if one has no place."""
    check_same_keys(p, q)
    targets = filled_stages(q)
    places = []
    place = 0
    for stage in p.stages:
        place = _place_from(place, targets, stage)
        if place is None:
            return None
        places.append(place)
    return tuple(places)


def carried(p, q, run):
    """A RUN of q from the first to the last row of a RUN of p."""
    places = laid(p, q)
    if places is None:
        raise NotWithin()
    rows = _checked(p, run)
    made = []
    for at in range(len(q) + 1):
        behind = len([place for place in places if place < at])
        made.append(_sorted_by_all(p.schema, rows[behind], q.open_at(at)))
    return tuple(made)


def together(p, part, runs, row, out):
    """The RUN of p from row to out in which RUNs of unlike values of a PART go side by side."""
    if p.span(part) != (0, len(p) - 1):
        raise NotWithin()
    for place, run in enumerate(runs):
        if first_fault(p, run, passes) is not None:
            raise BadRun(place)
    made = [row]
    for at in range(1, len(p)):
        made.append([record for rows in runs for record in rows[at]])
    return tupled([*made, out])


def first_fault(p, rows, follows):
    """The least place at which a row is missing, is one too many or does not follow the one ahead; None if none does.

    follows tells of a Stage and two rows whether the second one can be behind the Stage.
    """
    for place in range(len(p) + 1):
        if place == len(rows):
            return place
        if place > 0 and not follows(p[place - 1], rows[place - 1], rows[place]):
            return place
    return len(p) + 1 if len(rows) > len(p) + 1 else None


def _checked(p, run):
    place = first_fault(p, run, passes)
    if place is not None:
        raise BadRun(place)
    return tupled(run)


def _same_records(row, out):
    return set(tupled(row)) == set(tupled(out))


def _place_from(place, targets, stage):
    # A stage without FIELDs stays where it is, also where there are no targets.
    if len(stage) == 0:
        return place
    places = [at for at in range(place, len(targets)) if stage <= targets[at]]
    return places[0] if len(places) > 0 else None


def _sorted_by_all(keys, row, parts):
    for part in parts:
        order = sorted(set([(value(keys, record, part), at) for at, record in enumerate(row)]))
        row = tuple([row[at] for _, at in order])
    return row
