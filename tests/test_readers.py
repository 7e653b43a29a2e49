"""[14]: what readers can tell, sources, and records that are lost."""

import random
import unittest
from itertools import permutations, product

from keyspans.carry import is_run, only
from keyspans.errors import BadRun, BadView, MixedKeys
from keyspans.keys import Keys
from keyspans.lanes import outs
from keyspans.partings import parting
from keyspans.pipelines import Pipeline
from keyspans.readers import (
    hiding_source, hiding_stage, is_lossy, late_losses, may_show, same_for, seen)
from keyspans.stages import Stage
from tests.helpers import (
    check_raises, numbers, pipelines, plain_ahead, plain_crossed, plain_lane, plain_parts, plain_reached, plain_span,
    random_pipeline, random_row, things)

KEYS = Keys(("item", "user"))
OTHER = Keys(("item", "user"), (("item", "user"),))
P, Q, BOTH = Pipeline.of(KEYS, "user; item"), Pipeline.of(KEYS, "item; user"), Pipeline.of(KEYS, "item user")
ROW = ((0, (1, 1)), (1, (1, 2)), (2, (2, 2)), (3, (2, 1)))
FIELDS = ("a", "b", "a/2", "a/4", "a/6", "b/3", "#/2", "#/3", "#")
KEYSETS = tuple(Keys(("a", "b"), tells) for tells in ((), (("a", "b"),), (("b", "a"),)))
READERS = ("-", "a", "b", "a b", "a/2", "a/4 b", "b/3", "a/6 #/2", "#/3", "#")


def plain_seen(reader, row):
    """The VIEW of a row, by the words of the document."""
    lanes = {}
    for record in row:
        lanes.setdefault(plain_lane(reader.schema, reader, record), []).append(record[0])
    return tuple(sorted(tuple(lane) for lane in lanes.values()))


def ordered(row, order):
    records = {record[0]: record for record in row}
    return tuple(records[number] for number in order)


def plain_views(p, reader, row, source=None):
    """All VIEWs that p can show of a row, which a source may have mixed."""
    rows = [row] if source is None else [out for out in permutations(row) if not plain_crossed(p.schema, source, row, out)]
    return {plain_seen(reader, ordered(own, order)) for own in rows for order in plain_reached(p, own)[-1]}


class SeenTest(unittest.TestCase):

    def test_by_hand(self):
        row = ((7, (1, 1)), (3, (2, 1)), (9, (1, 2)), (4, (1, 1)), (0, (2, 2)))
        for text, view in (
                ("user", ((7, 3, 4), (9, 0))), ("item", ((3, 0), (7, 9, 4))), ("-", ((7, 3, 9, 4, 0),)),
                ("#", ((0,), (3,), (4,), (7,), (9,))), ("item user", ((0,), (3,), (7, 4), (9,))), ("#/2", ((4, 0), (7, 3, 9)))):
            self.assertEqual(seen(Stage.of(KEYS, text), row), view)
            self.assertEqual(seen(Stage.of(KEYS, text), ()), ())
        self.assertEqual(seen(reader=Stage.of(KEYS, "user"), row=list(row)), ((7, 3, 4), (9, 0)))

    def test_against_the_lanes(self):
        chosen = random.Random(1)
        for at in range(60):
            keys = KEYSETS[at % 3]
            row = random_row(chosen, keys, 6, (0, 1, 2, 3))
            for text in READERS:
                reader = Stage.of(keys, text)
                self.assertEqual(seen(reader, row), plain_seen(reader, row))


class SameForTest(unittest.TestCase):

    def check(self, p, q, reader, source, chosen):
        """Against all that can be shown of rows: of some, if it is the same; of one that parts the two, if it is not."""
        keys = p.schema
        same = same_for(p, q, reader, source=source)
        self.assertIs(type(same), bool)
        mine, yours = p >> reader, q >> reader
        if source is not None:
            mine, yours = Pipeline(keys, (source,)) >> mine, Pipeline(keys, (source,)) >> yours
        self.assertIs(same, mine == yours)
        if same:
            rows = [random_row(chosen, keys, 4, (0, 1, 2, 3, 4)) for _ in range(2)]
            for row in rows:
                self.assertEqual(plain_views(p, reader, row, source), plain_views(q, reader, row, source))
        else:
            row = (parting(mine, yours) or parting(yours, mine)).row
            self.assertNotEqual(plain_views(p, reader, row, source), plain_views(q, reader, row, source))
        return same

    def test_against_all_views(self):
        chosen = random.Random(2)
        answers = []
        for at in range(150):
            keys = KEYSETS[at % 3]
            p = random_pipeline(chosen, keys, FIELDS, 3)
            q = chosen.choice((p.plain, ~p, p >> p, random_pipeline(chosen, keys, FIELDS, 3)))
            reader = Stage.of(keys, chosen.choice(READERS))
            with self.subTest((p.text, q.text, reader.text)):
                answers.append(self.check(p, q, reader, None, chosen))
                answers.append(self.check(p, q, reader, Stage.of(keys, chosen.choice(READERS)), chosen))
        for answer in (True, False):
            self.assertGreater(answers.count(answer), 50)

    def test_edges(self):
        nothing, number = Stage(KEYS, ()), Stage(KEYS, ("#",))
        for p, q in product((P, Q, BOTH, Pipeline(KEYS)), repeat=2):
            self.assertIs(same_for(p, q, number), True)
            self.assertIs(same_for(p, q, nothing), p == q)
            self.assertIs(same_for(p, q, nothing, source=number), True)
            self.assertIs(same_for(p=p, q=q, reader=nothing, source=nothing), p == q)
        user, item = Stage.of(KEYS, "user"), Stage.of(KEYS, "item")
        self.assertIs(same_for(P, BOTH, item), False)
        self.assertIs(same_for(P, BOTH, nothing, source=item), True)
        self.assertIs(same_for(P, BOTH, nothing, source=user), False)
        self.assertRaises(TypeError, same_for, P, Q, user, item)

    def test_mixed_keys(self):
        own, other = Stage(KEYS, ()), Stage(OTHER, ())
        for given in ((P, Pipeline(OTHER), own), (P, P, other), (Pipeline(OTHER), P, own), (Pipeline(OTHER), Pipeline(OTHER), own)):
            check_raises(self, MixedKeys, {}, same_for, *given)
            check_raises(self, MixedKeys, {}, same_for, *given, source=own)
        check_raises(self, MixedKeys, {}, same_for, P, P, own, source=other)
        check_raises(self, MixedKeys, {}, hiding_stage, P, Pipeline(OTHER))
        check_raises(self, MixedKeys, {}, hiding_source, Pipeline(OTHER), P)
        check_raises(self, MixedKeys, {}, may_show, P, ROW, other, ((9, 9),))


class HidingTest(unittest.TestCase):

    def plain_hiding(self, p, q):
        """The PARTs of the stage, by the words of the document."""
        parts = sorted({*plain_parts(p), *plain_parts(q)})
        hiding = []
        for f in parts:
            in_p, in_q = plain_span(p, f), plain_span(q, f)
            if not (in_p and in_q):
                hiding.append(f)
                continue
            for g in parts:
                if g == f:
                    continue
                there = [own for own in (p, q) if plain_span(own, g)]
                ahead = [plain_ahead(own, f, g) for own in there]
                if (len(there) == 2 and ahead[0] != ahead[1]) or (len(there) == 1 and not ahead[0]):
                    hiding.append(f)
        return Stage(p.schema, hiding)

    def check(self, p, q):
        stage, source = hiding_stage(p, q), hiding_source(p, q)
        self.assertEqual(stage, self.plain_hiding(p, q))
        self.assertIs(len(stage) == 0, p == q)
        self.assertIs(len(source) == 0, p == q)
        self.assertEqual(source, hiding_stage(~p, ~q))
        self.assertEqual(hiding_stage(q, p), stage)
        readers = [Stage.of(p.schema, text) for text in READERS]
        for reader in (*readers, stage, source, *[stage | reader for reader in readers], *[stage & reader for reader in readers]):
            self.assertIs(same_for(p, q, reader), stage <= reader)
            ahead = Pipeline(p.schema, (reader,))
            self.assertIs(ahead >> p == ahead >> q, source <= reader)

    def test_which_readers_and_sources_hide(self):
        chosen = random.Random(3)
        for at in range(120):
            keys = KEYSETS[at % 3]
            p = random_pipeline(chosen, keys, FIELDS, 4)
            q = chosen.choice((p.plain, ~p, p >> p, random_pipeline(chosen, keys, FIELDS, 4)))
            with self.subTest((p.text, q.text)):
                self.check(p, q)
        self.check(Pipeline(KEYSETS[0]), Pipeline(KEYSETS[0]))
        self.check(Pipeline.of(KEYSETS[0], "#"), Pipeline(KEYSETS[0]))

    def test_small_pipelines(self):
        keys = KEYSETS[0]
        small = pipelines(keys, ("a", "b", "a/2"), 2)
        for p, q in product(small, small):
            self.check(p, q)

    def test_many_stages(self):
        chosen = random.Random(4)
        keys = Keys(("a", "b", "c", "d", "e"))
        p, q = [
            Pipeline(keys, [[f"{name}/{chosen.randrange(10 ** 5, 10 ** 6)}" for name in ("#", *keys.names)] for _ in range(12)])
            for _ in (0, 1)]
        stage = hiding_stage(p, q)
        self.assertIs(same_for(p, q, stage), True)
        self.assertIs(same_for(p, q, stage & p[0]), False)
        self.assertIs(same_for(p, q, Stage(keys, ()), source=hiding_source(p, q)), True)
        self.assertEqual(len(hiding_stage(p, p.plain)), 0)


class MayShowTest(unittest.TestCase):

    def check(self, p, row, reader, views):
        for order in permutations(row):
            view = plain_seen(reader, order)
            run = may_show(p, row, reader, view)
            self.assertIs(run is not None, view in views)
            if run is not None:
                self.assertIs(is_run(p, run), True)
                self.assertEqual(run[0], row)
                self.assertEqual(plain_seen(reader, run[-1]), view)

    def test_against_all_outs(self):
        chosen = random.Random(5)
        for at in range(60):
            keys = KEYSETS[at % 3]
            p, row = random_pipeline(chosen, keys, FIELDS, 4), random_row(chosen, keys, chosen.choice((0, 2, 4, 4)), (0, 1, 2, 3))
            for text in chosen.sample(READERS, 4):
                reader = Stage.of(keys, text)
                with self.subTest((p.text, row, text)):
                    self.check(p, row, reader, plain_views(p, reader, row))

    def test_five_records_and_many_levels(self):
        keys = Keys(("a", "b", "c"))
        p = Pipeline.of(keys, "a; b/2; b")
        self.assertGreater(len((p >> Stage.of(keys, "c")).plain), 2)
        row = ((0, (0, 0, 0)), (1, (0, 1, 1)), (2, (1, 1, 0)), (3, (1, 0, 1)), (4, (0, 0, 1)))
        self.check(p, row, Stage.of(keys, "c"), plain_views(p, Stage.of(keys, "c"), row))

    def test_many_records(self):
        chosen = random.Random(6)
        keys = Keys(("a", "b", "c", "d", "e"))
        p = Pipeline.of(keys, "; ".join(["a b/4"] * 6 + ["c d/2"] * 6))
        row = tuple((at, tuple(chosen.randrange(3) for _ in keys.names)) for at in range(24))
        for text in ("c", "-", "d/2", "c d"):
            reader = Stage.of(keys, text)
            self.assertLessEqual(len((p >> reader).plain), 2)
            out = row
            for stage in p.stages:
                for mixed in outs(stage, out):
                    out = mixed
                    if chosen.random() < .01:
                        break
            view = seen(reader, out)
            run = may_show(p, row, reader, view)
            self.assertIs(is_run(p, run), True)
            self.assertEqual((run[0], seen(reader, run[-1])), (row, view))
        backwards = seen(Stage(keys, ()), row[::-1])
        self.assertIs(may_show(p, row, Stage(keys, ()), backwards), None)

    def test_bad_views(self):
        user = Stage.of(KEYS, "user")
        for view in (
                (), ((),), ((0, 3),), ((1, 2), (0, 3)), ((0, 3), (1, 2), ()), ((), (0, 3), (1, 2)), ((0, 1), (2, 3)), ((0, 1, 2, 3),),
                ((0, 3), (1, 1)), ((0, 0), (1, 2)), ((0, 3, 0), (1, 2)), ((0, 3), (1, 2, 4)), ((0, 4), (1, 2)), ((0,), (1, 2), (3,)),
                ((0, 3), (1, 2), (1, 2)), ((3, 0), (1, 2)), ((2, 1), (0, 3)), ((0, 3), (1,)), ((0, 3), (1,), (2,)), ((0, 0), (1, 1))):
            check_raises(self, BadView, {}, may_show, P, ROW, user, view)
        for view in (((1, 2), (3, 0)), ((0, 3), (2, 1))):
            self.assertIs(may_show(Pipeline(KEYS), ROW, user, view), None)
        self.assertEqual(may_show(Pipeline(KEYS), ROW, user, ((0, 3), (1, 2))), (ROW,))
        self.assertEqual(may_show(p=Pipeline(KEYS), row=[*ROW], reader=user, view=[[0, 3], [1, 2]]), (ROW,))
        check_raises(self, BadView, {}, may_show, P, (), user, ((0,),))
        self.assertEqual(may_show(P, (), user, ()), ((), (), ()))
        number = Stage(KEYS, ("#",))
        self.assertEqual(seen(number, may_show(P, ROW, number, ((0,), (1,), (2,), (3,)))[-1]), ((0,), (1,), (2,), (3,)))
        check_raises(self, BadView, {}, may_show, P, ROW, number, ((1,), (0,), (2,), (3,)))


class LossesTest(unittest.TestCase):

    def some_lossy(self, chosen, p, row, share):
        rows = [row]
        for stage in p.stages:
            left = tuple(record for record in rows[-1] if chosen.random() >= share)
            choices = [out for out in permutations(left) if not plain_crossed(p.schema, stage, left, out)]
            rows.append(chosen.choice(choices))
        return tuple(rows)

    def plain_is_lossy(self, p, rows):
        if len(rows) != len(p) + 1:
            return False
        for stage, ahead, out in zip(p.stages, rows, rows[1:]):
            left = tuple(record for record in ahead if record in out)
            if sorted(left) != sorted(out) or plain_crossed(p.schema, stage, left, out):
                return False
        return True

    def test_losses(self):
        chosen = random.Random(7)
        for at in range(150):
            keys = KEYSETS[at % 3]
            p, row = random_pipeline(chosen, keys, FIELDS, 4), random_row(chosen, keys, 5, (0, 1, 2, 3))
            run = self.some_lossy(chosen, p, row, chosen.choice((0, .2, .5, 1)))
            with self.subTest((p.text, run)):
                self.assertIs(is_lossy(p, run), True)
                made = late_losses(p, run)
                self.assertIs(is_run(p, made), True)
                self.assertEqual(made[0], row)
                for own, left in zip(made, run):
                    self.assertEqual(only((own,), numbers(left))[0], left)
                self.assertEqual(late_losses(p=p, run=[list(own) for own in run]), made)

    def test_rows_that_are_no_lossy_run(self):
        chosen = random.Random(8)
        faults = 0
        for at in range(200):
            keys = KEYSETS[at % 3]
            p, row = random_pipeline(chosen, keys, FIELDS, 3), random_row(chosen, keys, 4, (0, 1, 2))
            rows = list(self.some_lossy(chosen, p, row, .2))
            change = chosen.randrange(4)
            if change == 0:
                rows = [tuple(chosen.sample(own, len(own))) for own in rows]
            elif change == 1:
                rows = rows[::-1]
            elif change == 2:
                rows.append(rows[-1])
            else:
                rows.pop()
            expected = self.plain_is_lossy(p, rows)
            self.assertIs(is_lossy(p, tuple(rows)), expected)
            if not expected:
                faults += 1
                good = [k for k in range(min(len(p), len(rows) - 1) + 1)
                        if self.plain_is_lossy(Pipeline(keys, p.stages[:k]), rows[:k + 1])] if rows else []
                check_raises(self, BadRun, {"place": len(good)}, late_losses, p, tuple(rows))
        self.assertGreater(faults, 100)

    def test_by_hand(self):
        a, b, c, d = ROW
        self.assertIs(is_lossy(P, (ROW, ROW, ROW)), True)
        self.assertIs(is_lossy(P, (ROW, (), ())), True)
        self.assertIs(is_lossy(P, ((), (), ())), True)
        self.assertIs(is_lossy(P, (ROW, (b, a), (a, b))), False)
        self.assertIs(is_lossy(P, (ROW, (b, a), (b,))), True)
        self.assertIs(is_lossy(P, (ROW, (b,), (b, a))), False)
        self.assertIs(is_lossy(P, (ROW, (d, a), ())), False)
        self.assertIs(is_lossy(P, (ROW, ROW)), False)
        self.assertIs(is_lossy(P, (ROW,) * 4), False)
        self.assertIs(is_lossy(P, (ROW, ((0, (1, 2)),), ())), False)
        self.assertIs(is_lossy(Pipeline(KEYS), (ROW,)), True)
        self.assertIs(is_lossy(p=Pipeline(KEYS), thing=()), False)
        self.assertEqual(late_losses(Pipeline(KEYS), (ROW,)), (ROW,))
        for rows, place in (
                ((), 0), ((ROW,), 1), ((ROW, ROW), 2), ((ROW,) * 4, 3), ((ROW, (b, a), (a, b)), 2), ((ROW, (d, a), ()), 1),
                ((ROW, (d, a), (), ()), 1), (((a,), (b,), ()), 1), ((ROW, (b,), (b, a)), 2)):
            check_raises(self, BadRun, {"place": place}, late_losses, P, rows)
        check_raises(self, BadRun, {"place": 1}, late_losses, Pipeline(KEYS), (ROW, ROW))
        made = late_losses(P, (ROW, (b, a), (b,)))
        self.assertEqual(only(made[1:], (0, 1)), ((b, a), (b, a)))

    def test_things_that_are_no_lossy_run(self):
        a, b, c, d = ROW
        number = (True, (1, 1))
        for thing in things():
            self.assertIs(is_lossy(P, thing), False)
            # A single row without records is a LOSSY RUN of no stages.
            self.assertIs(is_lossy(Pipeline(KEYS), thing), isinstance(thing, tuple) and thing == ((),))
        for thing in (
                [ROW, ROW, ROW], (list(ROW), ROW, ROW), (ROW, ROW, list(ROW)), (ROW, (list(a),), ()), (ROW, ((0, [1, 1]),), ()),
                ((number,), (number,), ()), ((a, a), (a,), ()), (((-1, (1, 1)),), (), ()), (((0, (1,)),), (), ()),
                (((0, (True, 1)),), (), ()), (ROW, ROW, None), (ROW, ROW, True), ("", "", ""), (P, P, P), (((0.0, (1, 1)),), (), ())):
            self.assertIs(is_lossy(P, thing), False)

    def test_many_records_and_stages(self):
        chosen = random.Random(9)
        keys = Keys(("a", "b", "c", "d", "e"))
        p = Pipeline(keys, [chosen.sample(("a/2", "b/3", "c/5", "d", "e/4", "#/6"), 2) for _ in range(12)])
        rows = [tuple((at, tuple(chosen.randrange(2) for _ in keys.names)) for at in range(24))]
        for stage in p.stages:
            left = [record for record in rows[-1] if chosen.random() < .9]
            for out in outs(stage, left):
                if chosen.random() < .2:
                    break
            rows.append(out)
        made = late_losses(p, tuple(rows))
        self.assertIs(is_run(p, made), True)
        for own, left in zip(made, rows):
            self.assertEqual(only((own,), numbers(left))[0], left)


if __name__ == "__main__":
    unittest.main()
