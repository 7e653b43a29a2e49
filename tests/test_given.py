"""[10]: what can come out of given rows."""

import random
import unittest
from itertools import permutations

from keyspans.carry import is_run
from keyspans.errors import Doubled, NoRecord, TooManyLevels
from keyspans.given import all_outs, is_ring, may_come, next_numbers, reached, why_never
from keyspans.keys import Keys
from keyspans.pipelines import Pipeline
from tests.helpers import (
    check_raises, numbers, pipelines, plain_lane, plain_reached, random_pipeline, random_row, things)

KEYS = Keys(("item", "user"))
P, Q = Pipeline.of(KEYS, "item; user"), Pipeline.of(KEYS, "user; item")
EMPTY = Pipeline(KEYS)
THREE = Pipeline.of(Keys(("a", "b", "c")), "a; b; c")
ROW = ((1, (5, 7)), (2, (6, 7)), (3, (6, 8)), (4, (5, 8)))
FIELDS = ("a", "b", "a/2", "a/4", "a/6", "b/3", "#/2", "#/3")


def plain_steps(p, row, front):
    """The steps by FIRST and by SECOND, pairs of numbers, by the words of the document."""
    plain = p.plain
    stages = plain.stages or (Pipeline(p.schema, ((),))[0],)
    lanes = [{record[0]: plain_lane(p.schema, stage, record) for record in row} for stage in (stages[0], stages[-1])]
    there = numbers(row)
    first = {(a, b) for at, a in enumerate(there) for b in there[at + 1:] if lanes[0][a] == lanes[0][b]}
    second = {
        (a, b) for a in there for b in there if a != b and lanes[1][a] == lanes[1][b] and a in front
        and (b not in front or front.index(b) > front.index(a))}
    return first, second


def plain_ring(p, row, front, thing):
    """Whether a tuple of numbers is a ring, by the words of the document."""
    return is_round(plain_steps(p, row, front), thing)


def is_round(steps, thing):
    if len(thing) < 2 or len(thing) % 2 or len(set(thing)) < len(thing):
        return False
    return all((one, thing[(at + 1) % len(thing)]) in steps[at % 2] for at, one in enumerate(thing))


def all_rings(p, row, front):
    steps = plain_steps(p, row, front)
    there = numbers(row)
    return [ring for many in range(2, len(there) + 1, 2) for ring in permutations(there, many) if is_round(steps, ring)]


def many_given(seed, many):
    """Pipelines, rows and fronts, the same in each run of the tests."""
    chosen = random.Random(seed)
    for at in range(many):
        keys = (Keys(("a", "b")), Keys(("a", "b"), (("a", "b"),)), Keys(("a", "b"), (("b", "a"),)))[at % 3]
        p = random_pipeline(chosen, keys, FIELDS + ("#",), 5)
        row = random_row(chosen, keys, 5, (0, 1, 2, 4, 6, -3))
        there = numbers(row)
        yield p, row, tuple(chosen.sample(there, chosen.randrange(len(there) + 1)))


class ReachedTest(unittest.TestCase):

    def test_by_hand(self):
        row = ((3, (0, 0)), (1, (1, 0)), (2, (0, 1)))
        self.assertEqual(
            reached(P, row), (((3, 1, 2),), ((1, 3, 2), (3, 1, 2), (3, 2, 1)), tuple(permutations((1, 2, 3)))))
        # Behind user 3 is ahead of 1 as it was; behind item 3 is ahead of 2, unless 2 was ahead of it.
        self.assertEqual(reached(Q, row)[1], ((2, 3, 1), (3, 1, 2), (3, 2, 1)))
        self.assertEqual(all_outs(Q, row), tuple(permutations((1, 2, 3))))
        self.assertEqual(reached(EMPTY, row), (((3, 1, 2),),))
        self.assertEqual(all_outs(EMPTY, row), ((3, 1, 2),))
        self.assertEqual(reached(Pipeline.of(KEYS, "-; -"), row), (((3, 1, 2),),) * 3)
        self.assertEqual(all_outs(Pipeline.of(KEYS, "#"), row), tuple(permutations((1, 2, 3))))
        self.assertEqual(reached(Q, ()), (((),),) * 3)
        self.assertEqual(reached(Q, row[:1]), (((3,),),) * 3)

    def test_the_stages_as_written(self):
        p = Pipeline.of(KEYS, "user; user; -; item; user")
        self.assertEqual(len(reached(p, ROW)), 6)
        self.assertEqual(all_outs(p, ROW), all_outs(p.plain, ROW))
        self.assertEqual(reached(p, ROW), plain_reached(p, ROW))

    def test_against_the_lanes(self):
        for p, row, _ in many_given(1, 150):
            with self.subTest((p.text, row)):
                self.assertEqual(reached(p, row), plain_reached(p, row))
                self.assertEqual(all_outs(p, row), plain_reached(p, row)[-1])
                for entry in reached(p, row):
                    self.assertEqual(list(entry), sorted(set(entry)))


class MayComeTest(unittest.TestCase):

    def check_all(self, p, row, front, outs):
        """All answers for a front, against the orders that come out."""
        mine = [out for out in outs if out[:len(front)] == front]
        run = may_come(p, row, front)
        self.assertIs(run is None, mine == [])
        if run is not None:
            self.assertIs(is_run(p, run), True)
            self.assertEqual(run[0], row)
            self.assertEqual(numbers(run[-1])[:len(front)], front)
        self.assertEqual(next_numbers(p, row, front), tuple(sorted({out[len(front)] for out in mine if len(out) > len(front)})))
        why = why_never(p, row, front)
        self.assertIs(why is None, run is not None)
        if len(p.plain) > 2:
            check_raises(self, TooManyLevels, {"many": len(p.plain)}, is_ring, p, row, front, why)
            if why is not None:
                self.assertEqual(why, plain_reached(p.plain, row))
        elif why is not None:
            self.assertIs(is_ring(p, row, front, why), True)
            self.assertTrue(plain_ring(p, row, front, why))
            self.assertEqual(len(why), min(len(ring) for ring in all_rings(p, row, front)))
        else:
            self.assertEqual(all_rings(p, row, front), [])

    def test_against_reached(self):
        levels = {}
        for p, row, front in many_given(2, 300):
            with self.subTest((p.text, row, front)):
                self.check_all(p, row, front, plain_reached(p, row)[-1])
                levels[len(p.plain)] = levels.get(len(p.plain), 0) + 1
        self.assertGreater(min(levels[many] for many in (0, 1, 2, 3)), 5)

    def test_all_fronts_of_small_pipelines(self):
        keys = Keys(("a", "b"))
        rows = ((), ((4, (0, 0)),), ((4, (0, 0)), (1, (0, 0))), ((2, (0, 0)), (3, (1, 0)), (1, (1, 1)), (0, (0, 1))))
        for p in pipelines(keys, ("", "a", "b", "a b"), 2):
            for row in rows:
                outs = plain_reached(p, row)[-1]
                for many in range(len(row) + 1):
                    for front in permutations(numbers(row), many):
                        with self.subTest((p.text, row, front)):
                            self.check_all(p, row, front, outs)

    def test_rows_without_records_and_with_one(self):
        one = ((5, (1, 2)),)
        for p in (EMPTY, P, Q, Q ** 3, Pipeline.of(KEYS, "-; -"), Pipeline.of(KEYS, "#")):
            self.assertEqual(may_come(p, (), ()), ((),) * (len(p) + 1))
            self.assertEqual(may_come(p, one, ()), (one,) * (len(p) + 1))
            self.assertEqual(may_come(p, one, (5,)), (one,) * (len(p) + 1))
            self.assertEqual((next_numbers(p, (), ()), next_numbers(p, one, ()), next_numbers(p, one, (5,))), ((), (5,), ()))
            self.assertEqual((why_never(p, (), ()), why_never(p, one, (5,)), why_never(p, one, ())), (None,) * 3)
            self.assertIs(is_ring(p, one, (5,), (5, 5)), False)

    def test_without_fields(self):
        for p in (EMPTY, Pipeline.of(KEYS, "-"), Pipeline.of(KEYS, "-; -; -")):
            self.assertEqual(may_come(p, ROW, (1, 2)), (ROW,) * (len(p) + 1))
            self.assertIs(may_come(p, ROW, (2,)), None)
            self.assertEqual(next_numbers(p, ROW, (1, 2)), (3,))
            self.assertEqual(next_numbers(p, ROW, (2,)), ())
            ring = why_never(p, ROW, (2,))
            self.assertEqual(ring, (1, 2))
            self.assertIs(is_ring(p, ROW, (2,), (1, 2)), True)
            # No step by SECOND leads out of what is not in the front.
            self.assertIs(is_ring(p, ROW, (2,), (2, 1)), False)
            self.assertIs(is_ring(p, ROW, (3, 2), (2, 3)), True)

    def test_plain_forms_of_more_stages(self):
        keys = THREE.schema
        row = ((0, (0, 0, 0)), (1, (0, 1, 0)), (2, (1, 1, 1)), (3, (1, 0, 1)), (4, (0, 0, 1)))
        for p in (THREE, ~THREE, THREE >> Pipeline.of(keys, "a/2"), Pipeline.of(keys, "a/2; a/3; b; c; -; c"),
                  Pipeline.of(keys, "a/2; b/3; a/3; b/2"), THREE ** 2, Pipeline.of(keys, "a; -; b; c; b/2 c")):
            outs = plain_reached(p, row)[-1]
            for many in (0, 1, 2, 5):
                for front in list(permutations(numbers(row), many))[::7]:
                    with self.subTest((p.text, front)):
                        self.check_all(p, row, front, outs)

    def test_more_records_than_can_be_looked_through(self):
        chosen = random.Random(4)
        keys = Keys(("a", "b"))
        for text in ("a; b", "b; -; a", "a b/2; b", "a/2; a/3", "a; a", "#/2; #/3"):
            p = Pipeline.of(keys, text)
            row = tuple((at, (chosen.randrange(4), chosen.randrange(4))) for at in range(24))
            front = ()
            while len(front) < 24:
                nexts = next_numbers(p, row, front)
                self.assertGreater(len(nexts), 0)
                for number in sorted(set(range(24)) - set(front) - set(nexts))[:3]:
                    barred = front + (number,)
                    self.assertIs(may_come(p, row, barred), None)
                    self.assertEqual(next_numbers(p, row, barred), ())
                    self.assertTrue(plain_ring(p, row, barred, why_never(p, row, barred)))
                front += (chosen.choice(nexts),)
                run = may_come(p, row, front)
                self.assertTrue(is_run(p, run))
                self.assertEqual((run[0], numbers(run[-1])[:len(front)]), (row, front))
            self.assertEqual(next_numbers(p, row, front), ())
            self.assertIs(why_never(p, row, front), None)


class RingsTest(unittest.TestCase):

    def test_two_numbers(self):
        p = Pipeline.of(KEYS, "item user; user")
        row = ((1, (5, 7)), (2, (5, 7)), (3, (6, 7)))
        self.assertEqual(why_never(p, row, (2,)), (1, 2))
        self.assertIs(is_ring(p, row, (2,), (1, 2)), True)
        self.assertIs(is_ring(p, row, (2,), (2, 1)), False)
        self.assertIs(is_ring(p, row, (2, 1), (1, 2)), True)
        self.assertIs(is_ring(p, row, (1, 2), (1, 2)), False)
        self.assertIs(is_ring(p, row, (3, 2), (1, 3)), False)

    def test_four_numbers(self):
        front = (2, 3, 4, 1)
        for ring, right in (
                ((1, 2, 3, 4), True), ((3, 4, 1, 2), True), ((2, 3, 4, 1), False), ((4, 1, 2, 3), False), ((1, 2), False),
                ((1, 2, 3), False), ((1, 4, 3, 2), False), ((), False), ((1,), False), ((1, 2, 3, 4, 1, 2, 3, 4), False),
                ((1, 2, 3, 4, 5, 6), False), ((1, 2, 3, 5), False), ((1, 1), False)):
            with self.subTest(ring):
                self.assertIs(is_ring(Q, ROW, front, ring), right)
        self.assertIn(why_never(Q, ROW, front), ((1, 2, 3, 4), (3, 4, 1, 2)))
        self.assertIs(is_ring(Q, ROW, (2, 3), (1, 2, 3, 4)), False)
        self.assertIs(is_ring(Q, ROW, (2, 3, 4), (1, 2, 3, 4)), True)
        self.assertIs(is_ring(P, ROW, front, (1, 2, 3, 4)), False)

    def test_six_numbers_and_more(self):
        # In the lanes of user 1 ahead of 2, 3 ahead of 4 ..; in those of item 2 and 3, 4 and 5 .., the last and the first.
        for half in (3, 4, 6, 12):
            row = tuple((at, (((at + 1) // 2) % half, at // 2)) for at in range(2 * half))
            front = tuple(range(1, 2 * half)) + (0,)
            ring = why_never(Q, row, front)
            with self.subTest(half):
                self.assertEqual(len(ring), 2 * half)
                self.assertIs(is_ring(Q, row, front, ring), True)
                self.assertTrue(plain_ring(Q, row, front, ring))
                self.assertEqual(ring[ring.index(0):] + ring[:ring.index(0)], tuple(range(2 * half)))
                self.assertIs(may_come(Q, row, front), None)
                # Without any record of the ring what is left can come.
                for gone in (0, 3, 2 * half - 1):
                    left = tuple(record for record in row if record[0] != gone)
                    rest = tuple(number for number in front if number != gone)
                    self.assertTrue(is_run(Q, may_come(Q, left, rest)))

    def test_a_ring_that_is_not_shortest(self):
        row = ((1, (5, 7)), (2, (6, 7)), (3, (6, 8)), (4, (5, 8)), (5, (9, 8)), (6, (5, 8)))
        front = (2, 3, 5, 6, 4, 1)
        self.assertEqual(len(why_never(Q, row, front)), 2)
        for ring in all_rings(Q, row, front):
            self.assertIs(is_ring(Q, row, front, ring), True)
        self.assertIn(4, [len(ring) for ring in all_rings(Q, row, front)])

    def test_against_the_words(self):
        rings = 0
        for p, row, front in many_given(5, 90):
            if len(p.plain) > 2:
                continue
            there = numbers(row)
            steps = plain_steps(p, row, front)
            for many in range(len(there) + 1):
                for thing in permutations(there, many):
                    right = is_round(steps, thing)
                    rings += right
                    if is_ring(p, row, front, thing) is not right:
                        self.fail((p.text, row, front, thing))
        self.assertGreater(rings, 50)

    def test_things_that_are_no_rings(self):
        front = (2, 3, 4, 1)
        for thing in things() + [
                [1, 2, 3, 4], (1, 2, 3, [4]), ((1, 2), (3, 4)), (1, 2, 3, "4"), (1, 2, 3, None), "1234", (1, 2, 3, (4,)), (True, 2, 3, 4),
                (2, True, 3, 4), ((1, 2, 3, 4),), (Q, P), (1, Q), ROW, (-1, 2), (1, 2, 3, 4.0)]:
            with self.subTest(repr(thing)):
                self.assertIs(is_ring(Q, ROW, front, thing), False)
        row = ((0, (5, 7)), (1, (5, 7)))
        self.assertIs(is_ring(Q, row, (1,), (0, 1)), True)
        for thing in ((False, 1), (0, True), (False, True)):
            self.assertIs(is_ring(Q, row, (1,), thing), False)


class FrontsTest(unittest.TestCase):

    def test_wrong_fronts(self):
        calls = (may_come, why_never, next_numbers, lambda p, row, front: is_ring(p, row, front, ()))
        for p in (EMPTY, Q, Pipeline.of(KEYS, "item/2; user; item/3")):
            for front, error, number in (
                    ((1, 1), Doubled, 1), ((1, 2, 3, 2, 1), Doubled, 2), ((9,), NoRecord, 9), ((1, 9, 8), NoRecord, 9),
                    ((9, 1, 1), Doubled, 1), ((9, 9), Doubled, 9), ((1, 2, 3, 4, 5), NoRecord, 5), ((9, 8, 9), Doubled, 9),
                    ((8, 9, 1), NoRecord, 8), ((0,), NoRecord, 0)):
                for call in calls:
                    with self.subTest((p.text, front)):
                        check_raises(self, error, {"number": number}, call, p, ROW, front)
        for call in calls:
            check_raises(self, NoRecord, {"number": 1}, call, Q, (), (1,))

    def test_too_many_levels(self):
        row = ((0, (0, 0, 0)), (1, (1, 0, 0)))
        check_raises(self, TooManyLevels, {"many": 3}, is_ring, THREE, row, (0,), (0, 1))
        check_raises(self, TooManyLevels, {"many": 3}, is_ring, THREE, row, (), None)
        check_raises(self, TooManyLevels, {"many": 3}, is_ring, THREE >> Pipeline.of(THREE.schema, "-; c"), row, (), ())
        four = Pipeline.of(KEYS, "item/2; user; item/3; user/2; item/5")
        check_raises(self, TooManyLevels, {"many": len(four.plain)}, is_ring, four, ROW, (), ())
        # Three stages as written, two in the plain form.
        self.assertIs(is_ring(Pipeline.of(KEYS, "user; item; user/2; -"), ROW, (2, 3, 4, 1), (1, 2, 3, 4)), False)
        self.assertIs(is_ring(Pipeline.of(KEYS, "user; user/2; -; item"), ROW, (2, 3, 4, 1), (1, 2, 3, 4)), True)
        check_raises(self, Doubled, {"number": 0}, is_ring, THREE, row, (5, 0, 0), (0, 1))
        check_raises(self, NoRecord, {"number": 5}, is_ring, THREE, row, (0, 5), (0, 1))

    def test_bare_fronts_and_whole_ones(self):
        for p, row, _ in many_given(6, 60):
            outs = plain_reached(p, row)[-1]
            self.assertTrue(is_run(p, may_come(p, row, ())))
            self.assertIs(why_never(p, row, ()), None)
            self.assertEqual(next_numbers(p, row, ()), tuple(sorted({out[0] for out in outs if out})))
            for out in outs[:10]:
                run = may_come(p, row, out)
                self.assertTrue(is_run(p, run))
                self.assertEqual(numbers(run[-1]), out)
                self.assertEqual(next_numbers(p, row, out), ())


if __name__ == "__main__":
    unittest.main()
