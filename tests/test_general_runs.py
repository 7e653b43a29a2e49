"""[2] and [3] for Pipelines, RUNs, Partings and given rows: kinds of arguments, and the bounds."""

import random
import unittest
from itertools import permutations

from keyspans.carry import carried, filled, is_run, laid, only, run_of, together, turns_of_run, why_no_run
from keyspans.given import all_outs, is_ring, may_come, next_numbers, reached, why_never
from keyspans.keys import Keys
from keyspans.lanes import is_row, lanes
from keyspans.partings import Parting, is_parting, parted_on, parting
from keyspans.pipelines import Pipeline, built
from keyspans.stages import Stage
from tests.calls import CallsChecks, inner_lists, with_lists
from tests.helpers import numbers

KEYS = Keys(("item", "user"))
P, Q = Pipeline.of(KEYS, "item; user"), Pipeline.of(KEYS, "user; item")
BOTH = Pipeline.of(KEYS, "user; item; user")
LONG = Pipeline.of(KEYS, "item/2; user; item/3")
ROW = ((0, (0, 0)), (2, (1, 0)), (3, (1, 1)), (1, (0, 1)))
RUN = (ROW, (ROW[1], ROW[0], ROW[2], ROW[3]), (ROW[1], ROW[2], ROW[3], ROW[0]))
TURNS = ((1, 0, 1, 0), (0, 1, 1, 0))
FOUR = ((ROW[0],), (ROW[0],), (ROW[0],), (ROW[0],))
OTHER = ((ROW[3],), (ROW[3],), (ROW[3],), (ROW[3],))
PARTING = Parting(RUN, ("user", "item"))
BARRED = (2, 3, 1, 0)

# Each call with its arguments, by the names that the interface shows.
CALLS = (
    (Pipeline, {"keys": KEYS, "stages": (("user/4", "item"), Stage(KEYS, ("user",)), (), ("#",))}),
    (Pipeline, {"keys": KEYS}),
    (Pipeline.of, {"keys": KEYS, "text": "user; -; item user/3"}),
    (P, {"row": ROW, "turns": TURNS}),
    (P.span, {"part": "user"}),
    (P.ahead, {"one": "item", "other": "user"}),
    (BOTH.open_at, {"place": 1}),
    (built, {"keys": KEYS, "names": ("item", "user"), "pairs": (("user", "item"),)}),
    (built, {"keys": KEYS, "names": ("item", "user"), "pairs": (("user", "item"), ("item", "user"))}),
    (is_run, {"p": P, "thing": RUN}),
    (why_no_run, {"p": P, "rows": RUN}),
    (why_no_run, {"p": P, "rows": RUN[::-1]}),
    (why_no_run, {"p": P, "rows": RUN[:2]}),
    (run_of, {"p": P, "row": ROW, "turns": TURNS}),
    (turns_of_run, {"p": P, "run": RUN}),
    (only, {"run": RUN, "numbers": (0, 3, 7)}),
    (filled, {"p": BOTH}),
    (laid, {"p": P, "q": BOTH}),
    (laid, {"p": P, "q": Q}),
    (carried, {"p": P, "q": P >> BOTH, "run": RUN}),
    (together, {"p": BOTH, "part": "user", "runs": (FOUR, OTHER), "row": (ROW[0], ROW[3]), "out": (ROW[3], ROW[0])}),
    (Parting, {"run": RUN, "parts": ("user", "item")}),
    (PARTING.cut, {"q": Q}),
    (parting, {"p": P, "q": Q}),
    (parting, {"p": P, "q": P}),
    (is_parting, {"p": P, "q": Q, "thing": PARTING}),
    (parted_on, {"p": P, "q": Q, "row": ROW}),
    (parted_on, {"p": P, "q": P, "row": ROW}),
    (may_come, {"p": P, "row": ROW, "front": BARRED}),
    (may_come, {"p": Q, "row": ROW, "front": BARRED}),
    (may_come, {"p": LONG, "row": ROW, "front": (1, 3)}),
    (why_never, {"p": Q, "row": ROW, "front": BARRED}),
    (why_never, {"p": P, "row": ROW, "front": BARRED}),
    (why_never, {"p": LONG, "row": ROW, "front": (3, 2)}),
    (is_ring, {"p": Q, "row": ROW, "front": BARRED, "thing": (0, 2, 3, 1)}),
    (next_numbers, {"p": Q, "row": ROW, "front": (2,)}),
    (next_numbers, {"p": LONG, "row": ROW, "front": (3,)}),
    (reached, {"p": LONG, "row": ROW}),
    (all_outs, {"p": P, "row": ROW}),
)


class RunCallsTest(CallsChecks, unittest.TestCase):

    calls = CALLS
    taking_things = (is_run, is_ring)

    def test_a_list_is_no_thing_that_is_described_as_a_tuple(self):
        self.assertIs(is_run(P, RUN), True)
        for depth in (1, 2, 3, 4):
            self.assertIs(is_run(P, with_lists(RUN, depth)), False)
        self.assertIs(is_run(P, inner_lists(RUN)), False)
        self.assertIs(is_ring(Q, ROW, BARRED, (0, 2, 3, 1)), True)
        self.assertIs(is_ring(Q, ROW, BARRED, [0, 2, 3, 1]), False)
        self.assertIs(is_ring(Q, with_lists(ROW), list(BARRED), (0, 2, 3, 1)), True)
        self.assertIs(is_ring(Q, with_lists(ROW), list(BARRED), [0, 2, 3, 1]), False)

    def test_kinds_of_results(self):
        for result in (
                P.stages, P.parts, P.span("user"), BOTH.open_at(1), P(ROW, TURNS), why_no_run(P, RUN[:2]), run_of(P, ROW, TURNS),
                turns_of_run(P, RUN), only(RUN, ()), laid(P, P), carried(P, P, RUN), PARTING.run, PARTING.parts, PARTING.row,
                PARTING.out, may_come(P, ROW, BARRED), why_never(Q, ROW, BARRED), next_numbers(P, ROW, ()), reached(P, ROW),
                all_outs(P, ROW), all_outs(P, ROW)[0], reached(P, ROW)[1]):
            self.assertIs(type(result), tuple)
        for result in (
                P.ahead("item", "user"), "user" in P, P == Q, P <= Q, P < Q, bool(P), is_run(P, RUN), is_parting(P, Q, PARTING),
                is_ring(Q, ROW, BARRED, (0, 2, 3, 1)), PARTING == PARTING):
            self.assertIs(type(result), bool)
        for result in (P.plain, P >> Q, P ** 2, ~P, built(KEYS, (), ()), filled(P)):
            self.assertIs(type(result), Pipeline)
        self.assertIs(type(P[0]), Stage)
        self.assertIs(type(parting(P, Q)), Parting)
        self.assertIs(type(parted_on(P, Q, ROW)), Parting)
        self.assertEqual((type(P.text), type(len(P)), type(len(PARTING)), type(PARTING.cut(Q))), (str, int, int, int))

    def test_results_may_be_passed_in_again(self):
        row = with_lists(ROW)
        run = may_come(P, row, list(BARRED))
        self.assertTrue(is_run(P, run))
        self.assertTrue(is_run(P ** 2, carried(P, P ** 2, run)))
        self.assertTrue(is_run(P, run_of(P, row, turns_of_run(P, with_lists(run)))))
        self.assertTrue(is_parting(P, Q, parted_on(P, Q, row)))
        made = parting(P, Q)
        self.assertEqual(Parting(made.run, made.parts), made)
        self.assertTrue(is_ring(Q, row, BARRED, why_never(Q, row, list(BARRED))))
        self.assertTrue(all(is_row(KEYS, between) for between in only(with_lists(RUN), [0, 1])))

    def test_objects_do_not_change(self):
        before = (P.text, P.parts, P.plain.text, Q.text, PARTING.run, PARTING.parts)
        for call, named in CALLS:
            call(**named)
        self.assertEqual((P.text, P.parts, P.plain.text, Q.text, PARTING.run, PARTING.parts), before)
        for name in ("schema", "stages", "text", "parts", "plain"):
            held = getattr(P, name)
            with self.assertRaises(AttributeError):
                setattr(P, name, held)


class BoundsTest(unittest.TestCase):

    def setUp(self):
        self.chosen = random.Random(1)
        self.keys = Keys(("a", "b", "c", "d", "e"))
        self.names = ("#", "a", "b", "c", "d", "e")

    def stage(self, many):
        """Some of the greatest FIELDs for each name, put together."""
        return Stage(self.keys, [f"{name}/{self.chosen.randrange(10 ** 5, 10 ** 6 + 1)}" for name in self.names for _ in range(many)])

    def row(self, many):
        return tuple(
            (at * 10 ** 99, tuple(self.chosen.randrange(-(10 ** 100), 10 ** 100) for _ in self.names[1:])) for at in range(many))

    def run_through(self, p, row):
        turns = []
        for stage in p.stages:
            order = [at for at, lane in enumerate(lanes(stage, row)) for _ in lane]
            self.chosen.shuffle(order)
            turns.append(order)
            row = Pipeline(self.keys, (stage,))(row, (order,))
        return turns

    def test_twelve_stages_of_great_numbers(self):
        p = Pipeline(self.keys, [self.stage(2) for _ in range(12)])
        q = Pipeline(self.keys, [self.stage(1) for _ in range(12)])
        self.assertEqual(Pipeline.of(self.keys, p.text).text, p.text)
        for one, other in ((p, q), (q, p), (p, p >> q), (p ** 2, p), (p, ~p), (q, q.plain), (q ** 2, q), (q, ~q)):
            self.assertIs(one <= other, laid(one, other) is not None)
            made = parting(one, other)
            self.assertIs(one <= other, made is None)
            if made is not None:
                self.assertIs(is_parting(one, other, made), True)
        self.assertEqual((p ** 2).plain.plain.text, (p ** 2).plain.text)
        self.assertEqual(len((p ** 2).plain), 1)

    def test_carried_of_all_records_through_all_stages(self):
        row = self.row(24)
        for p in (
                Pipeline(self.keys, [self.stage(1) for _ in range(12)]),
                Pipeline(self.keys, [self.chosen.sample(("a", "b/6", "c/10", "d", "e/4", "#/3"), 2) for _ in range(12)])):
            run = run_of(p, row, self.run_through(p, row))
            for q in (p, p ** 2, p >> ~p, p.plain):
                made = carried(p, q, run)
                self.assertTrue(is_run(q, made))
                self.assertEqual((made[0], made[-1]), (run[0], run[-1]))

    def test_built_with_all_names(self):
        chain = Keys(self.names[1:], (("a", "b"), ("b", "c"), ("c", "d"), ("d", "e")))
        for keys in (self.keys, chain):
            self.assertEqual(built(keys, self.names, ()).text, "#")
            self.assertIs(built(keys, self.names, (("a", "b"),)), None)
        pairs = tuple((one, other) for one, other in permutations(self.names[1:], 2) if one < other)
        self.assertEqual(built(self.keys, self.names[1:], pairs).text, "a; b; c; d; e")
        self.assertEqual(built(self.keys, self.names[1:], ()).text, "a b c d e")
        self.assertIs(built(chain, self.names[1:], pairs), None)
        self.assertEqual(built(chain, self.names[1:], ()).text, "a")

    def test_given_rows_of_all_records(self):
        row = tuple((at, tuple(self.chosen.randrange(3) for _ in self.names[1:])) for at in range(24))
        half = [Stage(self.keys, ("a", "b/4")), Stage(self.keys, ("d/2", "c"))]
        p = Pipeline(self.keys, half[:1] * 12 + half[1:] * 12)
        self.assertEqual(len(p.plain), 2)
        front = list(numbers(p(row, self.run_through(p, row))))
        run = may_come(p, row, front)
        self.assertTrue(is_run(p, run))
        self.assertEqual(list(numbers(run[-1])), front)
        for at in range(0, 24, 5):
            self.assertIn(front[at], next_numbers(p, row, front[:at]))
        barred = front[::-1]
        ring = why_never(p, row, barred)
        self.assertTrue(is_ring(p, row, barred, ring))
        self.assertIs(may_come(p, row, barred), None)

    def test_reached_of_five_records_through_all_stages(self):
        row = tuple((at, (at % 2, at // 2, at, 0, at % 3)) for at in range(5))
        fields = ("a", "b", "c/2", "e", "a b", "c/3", "#/2", "b/2", "e/2", "d", "c/5", "a c/2")
        p = Pipeline(self.keys, [text.split() for text in fields])
        self.assertEqual(len(reached(p ** 2, row)), 25)
        self.assertEqual(all_outs(p ** 2, row), tuple(permutations(range(5))))
        self.assertTrue(is_run(p ** 2, may_come(p ** 2, row, (4, 3, 2, 1, 0))))
        self.assertTrue(is_parting(p, Pipeline(self.keys, (("a",),)), parted_on(p, Pipeline(self.keys, (("a",),)), row)))

    def test_deep_things(self):
        deep = 1
        for _ in range(12):
            deep = (deep,)
        for thing in (deep, (deep,) * 3, ((0, deep),) * 3, (((0, deep),),) * 3):
            self.assertIs(is_run(P, thing), False)
            self.assertIs(is_ring(P, ROW, (), thing), False)
            self.assertIs(is_parting(P, Q, thing), False)


if __name__ == "__main__":
    unittest.main()
