"""[2] and [3] for promises, edits, several Pipelines and readers: kinds of arguments and of results."""

import unittest

from keyspans.above import any_order, arrange, how_many_orders, kept_by_all, least_above, must_ahead, orders
from keyspans.edits import edited, effect, forms, how_many_forms, joints, lean, needless_stages, swaps, twice
from keyspans.errors import BadRun, BadTurns, BadView, Descending, NoOrder, NoPlace, NoRecord, Unused
from keyspans.keys import Keys
from keyspans.pipelines import Pipeline
from keyspans.promises import Line, Promise, Restorer, mends, places_of, run_to
from keyspans.readers import hiding_source, hiding_stage, is_lossy, late_losses, may_show, same_for, seen
from keyspans.stages import Stage
from tests.calls import CallsChecks, inner_lists, with_lists
from tests.helpers import check_raises

KEYS = Keys(("item", "user"))
P, Q = Pipeline.of(KEYS, "user; item"), Pipeline.of(KEYS, "item; user")
BOTH = Pipeline.of(KEYS, "item user")
MIXED = Pipeline.of(KEYS, "user; item; user/2")
USER, ITEM = Stage.of(KEYS, "user"), Stage.of(KEYS, "item")
ROW = ((0, (1, 1)), (1, (2, 1)), (2, (1, 2)), (3, (1, 1)))
LINE = Line.of(KEYS, "item; =user")
LOSSY = (ROW, (ROW[1], ROW[3]), (ROW[3],))
PROMISE, RESTORER = Promise(USER), Restorer(USER)

# Each call with its arguments, by the names that the interface shows.
CALLS = (
    (Promise, {"stage": USER}),
    (PROMISE, {"pipeline": MIXED}),
    (PROMISE.broken, {"pipeline": MIXED}),
    (PROMISE.broken, {"pipeline": P ** 0}),
    (Promise.least, {"pipeline": MIXED}),
    (places_of, {"pipeline": MIXED, "row": ROW, "number": 3}),
    (run_to, {"pipeline": MIXED, "row": ROW, "number": 1, "place": 3}),
    (RESTORER, {"row": ROW[::-1], "turns": (1, 0, 0, 0)}),
    (Line, {"keys": KEYS, "items": (USER, RESTORER)}),
    (LINE, {"row": ROW, "turns": ((1, 0, 0, 0), (1, 0, 0, 0))}),
    (LINE.put, {"place": 1, "stage": ITEM}),
    (Line.of, {"keys": KEYS, "text": "user; =item"}),
    (mends, {"line": LINE, "promise": PROMISE}),
    (edited, {"pipeline": MIXED, "edit": ("set", 1, "user", 6)}),
    (edited, {"pipeline": MIXED, "edit": ("put", 3, "#/2 item")}),
    (effect, {"pipeline": MIXED, "edit": ("swap", 0)}),
    (effect, {"pipeline": MIXED, "edit": ("drop", 2)}),
    (edited, {"pipeline": MIXED, "edit": ("join", 1)}),
    (needless_stages, {"pipeline": MIXED}),
    (swaps, {"pipeline": MIXED}),
    (joints, {"pipeline": MIXED}),
    (lean, {"pipeline": MIXED}),
    (twice, {"pipeline": Pipeline.of(KEYS, "item #/2; item user"), "part": "item"}),
    (forms, {"keys": KEYS}),
    (how_many_forms, {"count": 4}),
    (kept_by_all, {"pipelines": (P, MIXED)}),
    (least_above, {"pipelines": (P, Q)}),
    (must_ahead, {"services": (ITEM, USER), "targets": (P, BOTH)}),
    (arrange, {"services": (ITEM, USER), "targets": (P, BOTH)}),
    (how_many_orders, {"services": (ITEM, USER), "targets": (BOTH,)}),
    (any_order, {"services": (ITEM, USER), "targets": (BOTH,)}),
    (seen, {"reader": USER, "row": ROW}),
    (same_for, {"p": P, "q": Q, "reader": USER}),
    (hiding_stage, {"p": P, "q": Q}),
    (hiding_source, {"p": P, "q": BOTH}),
    (may_show, {"p": P, "row": ROW, "reader": USER, "view": ((0, 1, 3), (2,))}),
    (may_show, {"p": Q, "row": ROW, "reader": ITEM, "view": ((1,), (3, 2, 0))}),
    (is_lossy, {"p": P, "thing": LOSSY}),
    (late_losses, {"p": P, "run": LOSSY}),
)


class PromiseCallsTest(CallsChecks, unittest.TestCase):

    calls = CALLS
    taking_things = (is_lossy,)

    def test_arguments_behind_a_star(self):
        for wishes in (((0, 1),), [[0, 1]], [(0, 1)], ([0, 1],)):
            given = with_lists(wishes)
            self.assertEqual(arrange([ITEM, USER], [BOTH], wishes=wishes), (0, 1))
            self.assertEqual(list(orders((ITEM, USER), (BOTH,), wishes=wishes)), [(0, 1)])
            self.assertEqual(how_many_orders((ITEM, USER), [BOTH], wishes=wishes), 1)
            self.assertEqual(with_lists(wishes), given)
        self.assertIs(same_for(P, Q, ITEM, source=USER), same_for(source=USER, reader=ITEM, q=Q, p=P))
        self.assertEqual(list(orders(services=[ITEM, USER], targets=[P])), list(orders((ITEM, USER), (P,))))

    def test_a_list_is_no_thing_that_is_described_as_a_tuple(self):
        self.assertIs(is_lossy(P, LOSSY), True)
        for depth in (1, 2, 3, 4):
            self.assertIs(is_lossy(P, with_lists(LOSSY, depth)), False)
        self.assertIs(is_lossy(P, inner_lists(LOSSY)), False)

    def test_kinds_of_results(self):
        for result in (
                PROMISE.broken(MIXED), places_of(MIXED, ROW, 3), run_to(MIXED, ROW, 1, 0), RESTORER(ROW, (0, 0, 0, 1)), LINE.steps,
                LINE(ROW, ((1, 0, 0, 0), (0, 0, 0, 1))), mends(LINE, PROMISE), needless_stages(MIXED), swaps(MIXED), joints(MIXED),
                kept_by_all((P,))[0], must_ahead((ITEM, USER), (P,))[0], arrange((), (P,)), next(orders((), (P,))), seen(USER, ROW),
                seen(USER, ROW)[0], may_show(P, ROW, USER, ((0, 1, 3), (2,))), late_losses(P, LOSSY), late_losses(P, LOSSY)[1]):
            self.assertIs(type(result), tuple)
        for result in (forms(KEYS), kept_by_all((P,)), must_ahead((), (P,))):
            self.assertIs(type(result), list)
        for result in (
                PROMISE(MIXED), PROMISE <= PROMISE, PROMISE < PROMISE, PROMISE == PROMISE, RESTORER == RESTORER, LINE <= LINE,
                LINE == LINE, any_order((), (P,)), same_for(P, Q, USER), is_lossy(P, LOSSY)):
            self.assertIs(type(result), bool)
        for result in (edited(P, ("drop", 0)), lean(P), least_above((P,)), forms(KEYS)[0], LINE.pipeline):
            self.assertIs(type(result), Pipeline)
        for result in (hiding_stage(P, Q), hiding_source(P, Q), PROMISE.stage, RESTORER.stage, Promise.least(P).stage):
            self.assertIs(type(result), Stage)
        for result in (len(LINE), LINE.last, how_many_forms(3), how_many_orders((), (P,))):
            self.assertIs(type(result), int)
        self.assertIs(type(effect(P, ("swap", 0))), str)

    def test_results_may_be_passed_in_again(self):
        row = with_lists(ROW)
        self.assertIs(is_lossy(P, late_losses(P, with_lists(LOSSY))), True)
        self.assertEqual(late_losses(P, late_losses(P, LOSSY)), late_losses(P, LOSSY))
        self.assertEqual(late_losses(MIXED, run_to(MIXED, row, 1, 0)), run_to(MIXED, ROW, 1, 0))
        self.assertIs(may_show(P, row, USER, seen(USER, row)) is None, False)
        self.assertEqual(Line(KEYS, LINE.steps), LINE)
        self.assertEqual(arrange((USER, ITEM), (P,), wishes=must_ahead((USER, ITEM), (P,))), (0, 1))

    def test_arguments_of_calls_that_raise_stay_as_they_are(self):
        rows = with_lists(LOSSY)
        row, turns, wishes, view = with_lists(ROW[::-1]), [[0], []], [[0, 1], [1, 0]], [[3, 0], [1]]
        before = repr((rows, row, turns, wishes, view))
        check_raises(self, BadRun, {"place": 3}, late_losses, P, [*rows, []])
        check_raises(self, BadRun, {"place": 1}, late_losses, P, rows[::-1])
        check_raises(self, Descending, {"number": 2}, LINE, row, turns)
        check_raises(self, BadTurns, {"place": 0}, LINE, row[:1], turns)
        check_raises(self, NoOrder, {}, arrange, [ITEM, USER], [BOTH], wishes=wishes)
        check_raises(self, Unused, {"service": 0, "target": 0}, arrange, [ITEM], [P ** 0], wishes=wishes)
        check_raises(self, BadView, {}, may_show, P, row, USER, view)
        check_raises(self, NoRecord, {"number": 9}, places_of, P, row, 9)
        check_raises(self, NoPlace, {"place": 9}, run_to, P, row, 0, 9)
        self.assertEqual(repr((rows, row, turns, wishes, view)), before)

    def test_objects_do_not_change(self):
        before = (MIXED.text, P.text, LINE.text, LINE.steps, PROMISE.stage.text, RESTORER.stage.text)
        for call, named in CALLS:
            call(**named)
        self.assertEqual((MIXED.text, P.text, LINE.text, LINE.steps, PROMISE.stage.text, RESTORER.stage.text), before)


if __name__ == "__main__":
    unittest.main()
