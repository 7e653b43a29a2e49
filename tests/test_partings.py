"""[9]: Partings, rows that part one Pipeline from another."""

import random
import unittest
from itertools import permutations

from keyspans.carry import is_run, only, run_of
from keyspans.errors import MixedKeys, NoPart
from keyspans.keys import Keys
from keyspans.lanes import is_row, lanes, value
from keyspans.partings import Parting, is_parting, parted_on, parting
from keyspans.pipelines import Pipeline
from keyspans.stages import Stage
from tests.helpers import (
    check_raises, numbers, pipelines, plain_ahead, plain_parts, plain_reached, plain_span, plain_within,
    random_pipeline, random_row, things)

KEYS = Keys(("item", "user"))
OTHER = Keys(("item", "user"), (("item", "user"),))
EMPTY = Pipeline(KEYS)
P, Q = Pipeline.of(KEYS, "item; user"), Pipeline.of(KEYS, "user; item")
FIELDS = ("a", "b", "a/2", "a/4", "a/6", "a/9", "b/3", "b/10", "#/2", "#/3", "#")
KEYSETS = tuple(Keys(("a", "b"), tells) for tells in ((), (("a", "b"),), (("b", "a"),)))
RUN = (((0, (0, 0)), (2, (1, 0)), (3, (1, 1)), (1, (0, 1))),
       ((2, (1, 0)), (0, (0, 0)), (3, (1, 1)), (1, (0, 1))),
       ((2, (1, 0)), (3, (1, 1)), (1, (0, 1)), (0, (0, 0))))


def many_pairs(seed, many):
    """Pairs of Pipelines, the same in each run of the tests."""
    chosen = random.Random(seed)
    for at in range(many):
        keys = KEYSETS[at % 3]
        p, q = random_pipeline(chosen, keys, FIELDS, 4), random_pipeline(chosen, keys, FIELDS, 4)
        for pair in ((p, q), (p >> q, q >> p), (p >> q, q), (~p, p), (p.plain, p >> q)):
            yield pair


def plain_apart(p, q):
    """The PARTs that a Parting has, by the words of the document."""
    parts = plain_parts(p)
    lacking = [part for part in parts if plain_span(q, part) is None]
    if lacking:
        return tuple(lacking[:1])
    pairs = [(f, g) for f in parts for g in parts if plain_ahead(q, f, g) and not plain_ahead(p, f, g)]
    return pairs[0] if pairs else ()


class ObjectTest(unittest.TestCase):

    def test_what_it_keeps(self):
        for run, parts in ((RUN, ("user", "item")), (RUN[:1], ()), (((RUN[0][0], RUN[0][1]),) * 2, ("user/2",)), (((),), ())):
            made = Parting(run, parts)
            with self.subTest(parts):
                self.assertEqual((made.run, made.parts, made.row, made.out), (run, parts, run[0], run[-1]))
                self.assertEqual(len(made), len(run[0]))
        self.assertEqual(Parting(run=RUN, parts=()).run, RUN)

    def test_kept_as_tuples_at_every_depth(self):
        run = [[[number, list(values)] for number, values in row] for row in RUN]
        parts = ["user", "item"]
        made = Parting(run, parts)
        self.assertEqual((made.run, made.parts), (RUN, ("user", "item")))
        self.assertEqual((made.row, made.out), (RUN[0], RUN[-1]))
        self.assertEqual(made, Parting(RUN, ("user", "item")))
        run[0][0][1].append(7)
        run.pop()
        parts.clear()
        self.assertEqual((made.run, made.parts), (RUN, ("user", "item")))
        self.assertEqual(Parting([RUN[0], [*RUN[1]], RUN[2]], ()).run, RUN)

    def test_equal(self):
        made = Parting(RUN, ("user", "item"))
        self.assertIs(made == Parting(RUN, ("user", "item")), True)
        self.assertIs(made != Parting(RUN, ("user", "item")), False)
        for other in (Parting(RUN, ("item", "user")), Parting(RUN, ("user",)), Parting(RUN, ()), Parting(RUN[:2], ("user", "item")),
                      Parting(RUN[::-1], ("user", "item")), RUN, ("user", "item"), (RUN, ("user", "item")), P, KEYS, *things()):
            self.assertIs(made == other, False)
            self.assertIs(made != other, True)

    def test_properties_without_setters(self):
        made = Parting(RUN, ("user", "item"))
        for name in ("run", "parts", "row", "out"):
            with self.assertRaises(AttributeError):
                setattr(made, name, ())
        self.assertEqual(made, Parting(RUN, ("user", "item")))

    def test_cut(self):
        made = Parting(RUN, ("user/2", "item"))
        for text, place in (("user; item", 0), ("item; user", 1), ("user/2; user; item; user/4; item", 3), ("user/6", 0)):
            self.assertEqual(made.cut(Pipeline.of(KEYS, text)), place)
        for text in ("", "-", "item", "user/3; item", "#/2"):
            check_raises(self, NoPart, {"part": "user/2"}, made.cut, Pipeline.of(KEYS, text))
        # Keys that lack the name, and other Keys that have it.
        check_raises(self, NoPart, {"part": "user/2"}, made.cut, Pipeline.of(Keys(("item",)), "item"))
        check_raises(self, NoPart, {"part": "user/2"}, made.cut, Pipeline(Keys(())))
        self.assertEqual(made.cut(Pipeline.of(Keys(("user", "x")), "x; user/8")), 1)
        check_raises(self, NoPart, {"part": "#"}, Parting(RUN, ("#", "item")).cut, Q)
        self.assertEqual(Parting(RUN, ("#/2", "item")).cut(q=Pipeline.of(KEYS, "#; item")), 0)
        for parts in ((), ("user",), ("nobody",)):
            for q in (EMPTY, Q, Pipeline(Keys(()))):
                self.assertIs(Parting(RUN, parts).cut(q), None)


class PartingTest(unittest.TestCase):

    def check_two(self, p, q, made):
        (part,), (x, u) = made.parts, made.row
        self.assertNotEqual(value(p.schema, x, part), value(p.schema, u, part))
        for stage in q.stages:
            self.assertIs(stage.same(x, u), True)
        self.assertIs(made.cut(q), None)
        self.assertEqual(made.out, (u, x))

    def check_four(self, p, q, made):
        (f, g), (x, y, z, u) = made.parts, made.row
        alike = [(f, x, y, True), (f, z, u, True), (g, y, z, True), (g, u, x, True), (f, x, z, False), (g, x, y, False)]
        for part, one, other, same in alike:
            self.assertIs(value(p.schema, one, part) == value(p.schema, other, part), same)
        cut = plain_span(q, f)[1]
        self.assertEqual(made.cut(q), cut)
        for place, stage in enumerate(q.stages):
            pairs = ((x, y), (z, u)) if place <= cut else ((y, z), (u, x))
            self.assertEqual([stage.same(one, other) for one, other in pairs], [True, True])
        self.assertEqual(made.out, (y, z, u, x))

    def check(self, p, q):
        made = parting(p, q)
        self.assertIs(made is None, plain_within(p, q))
        if made is None:
            return 0
        self.assertEqual(made.parts, plain_apart(p, q))
        self.assertEqual(len(made), 2 * len(made.parts))
        self.assertTrue(is_row(p.schema, made.row))
        self.assertTrue(is_run(p, made.run))
        self.assertIs(is_parting(p, q, made), True)
        self.assertNotIn(numbers(made.out), plain_reached(q, made.row)[-1])
        self.assertIn(numbers(made.out), plain_reached(p, made.row)[-1])
        check = self.check_two if len(made.parts) == 1 else self.check_four
        check(p, q, made)
        return len(made)

    def test_of_all_kinds(self):
        found = []
        for p, q in many_pairs(1, 300):
            with self.subTest((p.text, q.text)):
                found.append(self.check(p, q))
        self.assertGreater(min(found.count(many) for many in (0, 2, 4)), 50)

    def test_all_small_ones(self):
        for keys in KEYSETS:
            small = pipelines(keys, ("", "a", "b", "a b"), 2)
            for p in small:
                for q in small:
                    with self.subTest((keys.text, p.text, q.text)):
                        self.check(p, q)

    def test_numbers_of_several_stages(self):
        keys = Keys(("a", "b"))
        for one, other in (
                ("a/2; a/3; b", "b; a/6"), ("a/4 a/9; b/25", "b/5; a/36; b/25"), ("#/4; a/3; #/9", "a/3; #/36"), ("b; #/4", "#/4; b"),
                ("#/2; a", "a; #/2"), ("#; a", "a; b"), ("a/999983; b/1000000", "b/1000000; a/999983"), ("a/1000000; a", "a"),
                ("#/4; a/2; #/3", "a/2; #/3; #/4"), ("a", "a/999983 a/999979; b"), ("a/8", "a/4; a/3"), ("a/3; a/2", "a/2; a/3")):
            p, q = Pipeline.of(keys, one), Pipeline.of(keys, other)
            for mine, yours in ((p, q), (q, p), (p ** 2, q), (p, p >> q)):
                with self.subTest((mine.text, yours.text)):
                    self.check(mine, yours)

    def test_names_that_tell_others(self):
        keys = Keys(("a", "b", "c"), (("a", "b"), ("b", "c")))
        for one, other in (
                ("a", "b; c"), ("c/2; b/2; a/2", "a/2; b/2; c/2"), ("a/2; b", "b; a/2"), ("c; a/3", "a/3; c"), ("#/2; c", "c; #/2"),
                ("a/2 c/3; b/5; c/7", "c/7; b/5; a/2; c/3"), ("b; a/2; b", "a/2; b"), ("c/2; a", "a; c/2"), ("#", "a; b; c")):
            p, q = Pipeline.of(keys, one), Pipeline.of(keys, other)
            for mine, yours in ((p, q), (q, p)):
                with self.subTest((mine.text, yours.text)):
                    self.check(mine, yours)

    def test_none(self):
        for one, other in (("", ""), ("", "user"), ("-", ""), ("-; -", "item"), ("item user", "user; item; user"), ("user; item", "user; item")):
            self.assertIs(parting(Pipeline.of(KEYS, one), Pipeline.of(KEYS, other)), None)

    def test_first_parts(self):
        for one, other, parts in (
                ("user", "", ("user",)), ("user; item", "user/2", ("item",)), ("#", "item user", ("#",)), ("user/12", "item user/6", ("user/4",)),
                ("#/6; user", "#/2 item", ("#/3",)), ("user/30", "user/2; user/3", ("user/5",)), ("user/6", "user/2; user/3", ("user/2", "user/3")),
                ("item; user", "user; item", ("user", "item")), ("item user", "user; item", ("user", "item")),
                ("item; user; user/2", "user; item; user/2", ("user", "item")), ("#/2 item user", "item; user; #/2", ("item", "#/2")),
                # What is lacking comes ahead of what stands the other way about.
                ("item; user; #/2", "user; item", ("#/2",))):
            with self.subTest((one, other)):
                self.assertEqual(parting(Pipeline.of(KEYS, one), Pipeline.of(KEYS, other)).parts, parts)

    def test_three_records_never_part_what_two_do_not(self):
        keys = Keys(("a", "b"))
        small = pipelines(keys, ("", "a", "b", "a b"), 2)
        corners = ((0, 0), (0, 1), (1, 0), (1, 1))
        rows = [tuple(enumerate(order)) for order in permutations(corners, 3)]
        found = {p.text: [set(plain_reached(p, row)[-1]) for row in rows] for p in small}
        for p in small:
            for q in small:
                made = parting(p, q)
                if made is not None and len(made) == 4:
                    for mine, yours in zip(found[p.text], found[q.text]):
                        self.assertLessEqual(mine, yours)

    def test_mixed_keys(self):
        for p in (EMPTY, P, Pipeline.of(KEYS, "-")):
            for q in (Pipeline(OTHER), Pipeline.of(OTHER, "item; user"), Pipeline(Keys(()))):
                for one, other in ((p, q), (q, p)):
                    check_raises(self, MixedKeys, {}, parting, one, other)
                    check_raises(self, MixedKeys, {}, is_parting, one, other, Parting(RUN, ()))
                    check_raises(self, MixedKeys, {}, is_parting, one, other, None)
                    check_raises(self, MixedKeys, {}, parted_on, one, other, RUN[0])


class IsPartingTest(unittest.TestCase):

    def test_partings(self):
        self.assertIs(is_parting(P, Q, Parting(RUN, ("user", "item"))), True)
        # The parts are not looked at.
        for parts in ((), ("item",), ("nobody", "#"), ("item", "user")):
            self.assertIs(is_parting(P, Q, Parting(RUN, parts)), True)
        self.assertIs(is_parting(Q, P, Parting(RUN, ("user", "item"))), False)
        self.assertIs(is_parting(P, P, Parting(RUN, ())), False)
        self.assertIs(is_parting(P, Pipeline.of(KEYS, "user item"), Parting(RUN, ())), False)
        self.assertIs(is_parting(P, Pipeline.of(KEYS, "user"), Parting(RUN, ())), True)
        self.assertIs(is_parting(P >> Q, Q, Parting(RUN, ())), False)
        self.assertIs(is_parting(P >> Pipeline.of(KEYS, "-"), Q, Parting(RUN + RUN[-1:], ())), True)
        for run in (RUN[:2], RUN + RUN[-1:], (RUN[0], RUN[0], RUN[2]), RUN[::-1], (RUN[0],) * 3, only(RUN, (0, 2, 3)), ((),) * 3, (RUN[0],)):
            with self.subTest(run):
                self.assertIs(is_parting(P, Q, Parting(run, ())), False)

    def test_many_records(self):
        five = tuple(row + ((9, (3, 3)),) for row in RUN)
        six = tuple(row + ((8, (4, 4)),) for row in five)
        self.assertIs(is_parting(P, Q, Parting(five, ())), True)
        self.assertIs(is_run(P, six), True)
        self.assertIs(is_parting(P, Q, Parting(six, ())), False)
        self.assertIs(is_parting(P, EMPTY, Parting(((RUN[0][0],),) * 3, ())), False)

    def test_things(self):
        run = [list(row) for row in RUN]
        for thing in [*things(), RUN, (RUN, ()), run, P, Q, KEYS, Stage(KEYS, ()), [Parting(RUN, ())], (Parting(RUN, ()),), (Parting(RUN, ()),) * 2]:
            with self.subTest(repr(thing)):
                self.assertIs(is_parting(P, Q, thing), False)
        # Its run has become tuples.
        self.assertIs(is_parting(P, Q, Parting(run, [])), True)
        changed = tuple(tuple((number, (item, bool(user) if number == 3 else user)) for number, (item, user) in row) for row in RUN)
        self.assertIs(is_parting(P, Q, Parting(changed, ())), False)

    def test_against_what_comes_out(self):
        chosen = random.Random(3)
        found = []
        for p, q in many_pairs(4, 60):
            row = random_row(chosen, p.schema, 5, (0, 1, 2, 4, 6, 12, -3))
            turns = []
            at = row
            for stage in p.stages:
                order = [lane for lane, records in enumerate(lanes(stage, at)) for _ in records]
                chosen.shuffle(order)
                turns.append(tuple(order))
                at = Pipeline(p.schema, (stage,))(at, (tuple(order),))
            made = Parting(run_of(p, row, turns), ())
            found.append(numbers(at) not in plain_reached(q, row)[-1])
            with self.subTest((p.text, q.text, made.run)):
                self.assertIs(is_parting(p, q, made), found[-1])
        self.assertGreater(min(found.count(True), found.count(False)), 30)


class PartedOnTest(unittest.TestCase):

    def test_by_hand(self):
        made = parted_on(P, Q, RUN[0])
        # In Q 3 stays ahead of 1 behind user; with 1 ahead of 0 and 0 ahead of 2 that would be a ring with 2 ahead of 3.
        self.assertEqual((made.row, numbers(made.out), made.parts), (RUN[0], (1, 0, 2, 3), ()))
        self.assertTrue(is_run(P, made.run))
        self.assertIs(parted_on(P, Q, RUN[0][:3]), None)
        self.assertIs(parted_on(P, Q, ()), None)
        self.assertIs(parted_on(P, EMPTY, RUN[0][:1]), None)
        self.assertEqual(numbers(parted_on(P, EMPTY, RUN[0][::-1]).out), (0, 1, 2, 3))
        self.assertIs(parted_on(EMPTY, P, RUN[0]), None)

    def test_the_least_that_comes_out_of_one_alone(self):
        chosen = random.Random(5)
        found = 0
        for p, q in many_pairs(6, 80):
            row = random_row(chosen, p.schema, 5, (0, 1, 2, 4, 6, 12, -3))
            barred = plain_reached(q, row)[-1]
            alone = [out for out in plain_reached(p, row)[-1] if out not in barred]
            made = parted_on(p, q, row)
            with self.subTest((p.text, q.text, row)):
                self.assertIs(made is None, alone == [])
                if alone:
                    found += 1
                    self.assertEqual((made.row, numbers(made.out), made.parts), (row, alone[0], ()))
                    self.assertIs(is_parting(p, q, made), True)
                    self.assertTrue(is_run(p, made.run))
                if plain_within(p, q):
                    self.assertIs(made, None)
        self.assertGreater(found, 40)

    def test_on_the_row_of_a_parting(self):
        for p, q in many_pairs(7, 40):
            made = parting(p, q)
            if made is not None:
                on = parted_on(p, q, made.row)
                with self.subTest((p.text, q.text)):
                    self.assertEqual(on.row, made.row)
                    self.assertLessEqual(numbers(on.out), numbers(made.out))


if __name__ == "__main__":
    unittest.main()
