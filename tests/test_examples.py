"""The examples of sections 3 to 17 of the document, with the answers that stand there."""

import unittest

from keyspans.above import any_order, arrange, how_many_orders, kept_by_all, least_above, must_ahead, orders
from keyspans.board import Board
from keyspans.carry import carried, filled, is_run, laid, together, why_no_run
from keyspans.desk import answers
from keyspans.edits import effect, forms, how_many_forms, joints, lean, needless_stages, swaps, twice
from keyspans.errors import (
    BadField, BadLine, NoLeast, NoOrder, NotWithin, Outside, Ringed, Stopped, Unlawful, Unused)
from keyspans.given import is_ring, may_come, next_numbers, why_never
from keyspans.keys import Keys, field_of, is_field, is_part, parts_of
from keyspans.lanes import (
    costs_of, crossed, exchanges, how_many, lanes, least_stages, next_out, place, pour, row_of, timed, turns_of)
from keyspans.logs import Logs, best_question, learned, question, sample, why_no_form
from keyspans.partings import Parting, is_parting, parting
from keyspans.pipelines import Pipeline, built
from keyspans.promises import Line, Promise, Restorer, mends, places_of, run_to
from keyspans.readers import hiding_source, hiding_stage, may_show, same_for, seen
from keyspans.stages import Stage
from keyspans.texts import board_in, board_text, row_in, row_text
from tests.helpers import check_raises


class ExamplesTest(unittest.TestCase):

    def setUp(self):
        self.keys = Keys.of("user\nshop tells city")

    def test_section_3(self):
        keys = self.keys
        self.assertEqual(
            (keys.names, keys.pairs, keys.text),
            (("city", "shop", "user"), (("shop", "city"),), "city\nshop\nuser\nshop tells city"))
        self.assertEqual(
            (keys.tells("#", "city"), keys.tells("city", "shop"), keys.told("shop"), "#" in keys, len(keys)),
            (True, False, ("city",), False, 3))
        self.assertEqual(
            (field_of("user/12"), field_of("#"), parts_of("user/12"), is_part("user/6"), is_field("user/1")),
            (("user", 12), ("#", 0), ("user/2", "user/3", "user/4"), False, False))
        check_raises(
            self, Ringed, {"ring": ("a", "b")}, Keys, ("a", "b", "c"), (("a", "b"), ("b", "a"), ("b", "c")))

    def test_section_4(self):
        keys = self.keys
        stage = Stage.of(keys, "shop user/6")
        self.assertEqual(
            (stage["shop"], stage["city"], stage["user"], stage["#"], len(stage), stage.fields),
            (0, 0, 6, 1, 3, ("shop", "user/6")))
        self.assertEqual(
            ("city/5" in stage, "user/3" in stage, "user/4" in stage, "user" in stage, "#" in stage),
            (True, True, False, False, False))
        two = Stage(keys, ("user/4", "city"))
        self.assertEqual(
            ((stage | two).text, (stage & two).text, stage <= two, stage & two < two),
            ("shop user/12", "city user/2", False, True))
        self.assertEqual(
            (stage.lane((7, (1, 10, -9))), stage ^ two), ((1, 10, 3), ((0, (0, 0, 0)), (1, (0, 0, 6)))))
        self.assertEqual(Stage.of(keys, "city") ^ Stage.of(keys, "shop"), ((0, (0, 0, 0)), (1, (0, 1, 0))))

    def test_section_5(self):
        keys = self.keys
        row = row_of(keys, ((1, (1, 10, 4)), (2, (1, 11, 6)), (3, (2, 20, 4)), (4, (1, 10, 9))))
        even = Stage.of(keys, "user/2")
        out = pour(even, row, (0, 1, 0, 0))
        self.assertEqual(
            ([number for number, values in out], [len(lane) for lane in lanes(even, row)], how_many(even, row)),
            ([1, 4, 2, 3], [3, 1], 4))
        self.assertEqual(
            (place(even, row, out), turns_of(even, row, next_out(even, row, out)), costs_of(even, row, out)),
            (2, (1, 0, 0, 0), (1, 2, 1, 2)))
        self.assertEqual(
            (timed(even, row, (0, 0, 0, 5), (1, 2, 1, 2)) == row, exchanges(row, out)), (True, (2, 1)))
        self.assertEqual(
            ([least.text for least in least_stages(keys, row, out)],
             crossed(even, row, (row[2], row[0], row[1], row[3]))),
            (["shop", "user"], (1, 3)))
        check_raises(
            self, Unlawful, {"first": 1, "second": 2, "name": "shop"},
            row_of, keys, ((1, (1, 10, 4)), (2, (2, 10, 5))))

    def test_section_6(self):
        keys = Keys.of("user\nshop tells item")
        p = Pipeline.of(keys, "user; item; user")
        self.assertEqual(
            (p.plain.text, p == Pipeline.of(keys, "item user"), p <= Pipeline.of(keys, "user; item"),
             Pipeline.of(keys, "user; item") < p),
            ("item user", True, False, True))
        q = Pipeline(keys, (("user/4",), ("user/9",), ("user/6",)))
        self.assertEqual(
            (q.parts, q.span("user/2"), q.span("user/8"), q.ahead("user/4", "user/3"), q.open_at(1), q.open_at(2),
             q.plain.text),
            (("user/2", "user/3", "user/4", "user/9"), (0, 2), None, True, ("user/2",), ("user/2", "user/3"),
             "user/4; user/18"))
        self.assertEqual(
            ((~p >> Stage.of(keys, "shop")).text, (p ** 0).text, len(p ** 2), bool(Pipeline.of(keys, "-; -")),
             Pipeline.of(keys, "-").plain.text),
            ("user; item; user; shop", "", 6, False, ""))
        self.assertEqual(
            (Pipeline.of(keys, "shop").parts, "user/8" in Pipeline.of(keys, "user")), (("item", "shop"), True))
        self.assertEqual(
            (built(keys, ("item", "user"), (("user", "item"),)).text, built(keys, ("shop", "user"), ()),
             built(keys, ("item", "shop", "user"), (("item", "user"), ("shop", "user"))).text),
            ("user; item", None, "shop; user"))
        check_raises(self, BadField, {"field": "user/6"}, q.span, "user/6")

    def test_section_7(self):
        keys = Keys(("item", "user"))
        p, q = Pipeline.of(keys, "item user"), Pipeline.of(keys, "user; item; user")
        self.assertEqual(
            (filled(q).text, laid(p, q), laid(q, p), laid(q, Pipeline.of(keys, "user; item"))),
            ("user; item user; user", (1,), (0, 0, 0), None))
        one, two, three = (1, (0, 1)), (2, (0, 2)), (3, (5, 1))
        self.assertEqual(
            carried(p, q, ((one, two, three), (three, one, two))),
            ((one, two, three), (one, three, two), (three, one, two), (three, one, two)))
        self.assertEqual(
            (why_no_run(q, ((one, two, three), (two, three, one))), why_no_run(q, ((one, two),))), ((1, (1, 3)), (1, ())))
        self.assertEqual(
            together(q, "user", (((one,),) * 4, ((two,),) * 4), (one, two), (two, one)),
            ((one, two), (one, two), (one, two), (two, one)))
        check_raises(self, NotWithin, {}, carried, q, Pipeline.of(keys, "user; item"), ())

    def test_section_8(self):
        keys = Keys(("item", "user"))
        p, q = Pipeline.of(keys, "item; user"), Pipeline.of(keys, "user; item")
        self.assertEqual(parting(p, q).parts, ("user", "item"))
        self.assertIs(parting(p, Pipeline.of(keys, "item user")), None)
        one, two, three, four = row_of(keys, ((0, (0, 0)), (2, (1, 0)), (3, (1, 1)), (1, (0, 1))))
        run = ((one, two, three, four), (two, one, three, four), (two, three, four, one))
        self.assertEqual(lanes(p[0], run[0]), [(one, four), (two, three)])
        self.assertEqual(lanes(p[1], run[1]), [(two, one), (three, four)])
        self.assertTrue(is_parting(p, q, Parting(run, ("user", "item"))))
        self.assertEqual(parting(p, q).cut(q), 0)

    def test_section_9(self):
        keys = Keys(("item", "user"))
        p, q = Pipeline.of(keys, "item; user"), Pipeline.of(keys, "user; item")
        row = ((1, (5, 7)), (2, (6, 7)), (3, (6, 8)), (4, (5, 8)))
        ring = why_never(q, row, (2, 3, 4, 1))
        self.assertEqual((is_ring(q, row, (2, 3, 4, 1), ring), len(ring)), (True, 4))
        self.assertTrue(is_ring(q, row, (2, 3, 4, 1), (1, 2, 3, 4)))
        self.assertTrue(is_ring(q, row, (2, 3, 4, 1), (3, 4, 1, 2)))
        self.assertIs(may_come(p, row, (2, 3, 4, 1)) is None, False)
        self.assertEqual(next_numbers(q, row, (2, 3)), (1,))

    def test_section_10(self):
        keys = Keys(("item", "user"))
        mixed = Pipeline.of(keys, "user; item; user/2")
        whole = Promise(Stage.of(keys, "user"))
        self.assertEqual(
            (whole(mixed), Promise.least(mixed).stage.text, whole & Promise.least(mixed) == whole, whole < Promise.least(mixed)),
            (False, "item user", True, True))
        run = whole.broken(mixed)
        self.assertTrue(is_run(mixed, run))
        self.assertEqual(
            (len(run), [number for number, values in run[0]] == [number for number, values in run[-1]],
             Promise.least(mixed).broken(mixed)),
            (4, False, None))
        row = ((0, (1, 1)), (1, (2, 1)), (2, (1, 2)), (3, (1, 1)))
        self.assertEqual(
            (places_of(mixed, row, 3), places_of(mixed, row, 1), run_to(mixed, row, 1, 0)[-1][0]), ((1, 3), (0, 3), (1, (2, 1))))
        line = Line.of(keys, "item; =user; item; user")
        self.assertEqual(
            (line.text, line.last, line.pipeline.text, mends(line, whole), line.put(4, whole.stage).pipeline.text),
            ("item; =user; item; user", 1, "user; item; user", (3, 4), "user"))
        self.assertEqual(
            Restorer(Stage.of(keys, "user"))(((5, (1, 1)), (2, (3, 1)), (4, (2, 2))), (1, 0, 0)),
            ((4, (2, 2)), (2, (3, 1)), (5, (1, 1))))

    def test_section_11(self):
        keys = Keys(("a", "b", "c", "d"))
        six = Pipeline.of(keys, "a; b; a; c; b; d")
        self.assertEqual(
            (six.plain.text, lean(six).text, twice(six, "b"), twice(six, "c"), needless_stages(six), swaps(six), joints(six)),
            ("a b; b c; d", "a b; b c; d", ("a", "c"), None, (0,), (0,), (0, 1, 3)))
        self.assertEqual(
            (effect(six, ("drop", 1)), effect(six, ("set", 3, "d", 0)), effect(six, ("swap", 0)),
             effect(Pipeline.of(keys, "a; b"), ("swap", 0))),
            ("less", "more", "same", "neither"))
        self.assertEqual(
            ([form.text for form in forms(Keys(("a", "b"), (("b", "a"),)))], [how_many_forms(count) for count in range(6)]),
            (["", "a", "b"], [1, 2, 6, 32, 306, 4712]))

    def test_section_12(self):
        keys = Keys(("a", "b", "c"))
        old, new = Pipeline.of(keys, "a c"), Pipeline.of(keys, "a; b; c")
        self.assertEqual(
            (kept_by_all((old, new)), least_above((Pipeline.of(keys, "a; b"), Pipeline.of(keys, "b; a"))).text),
            ([("a", "b"), ("b", "c")], "a b"))
        with self.assertRaises(NoLeast) as caught:
            least_above((old, new))
        for own in (caught.exception.first, caught.exception.second):
            self.assertTrue(old <= own and new <= own)
        self.assertEqual({caught.exception.first.text, caught.exception.second.text}, {"a c; b c", "a b; a c"})
        services = (Stage.of(keys, "c"), Stage.of(keys, "a"), Stage.of(keys, "b"))
        target = Pipeline.of(keys, "a b; b c")
        self.assertEqual(
            (must_ahead(services, (target,)), arrange(services, (target,)), how_many_orders(services, (target,)),
             any_order(services, (target,))),
            ([(1, 0)], (1, 0, 2), 3, False))
        self.assertEqual(
            (list(orders(services, (target,), wishes=((0, 2),))), list(orders(services, (old,)))), ([(1, 0, 2)], []))
        with self.assertRaises(NoOrder) as caught:
            arrange(services, (target, Pipeline.of(keys, "b c; a")))
        self.assertEqual(sorted(caught.exception.ring), [0, 1])
        check_raises(self, Unused, {"service": 2, "target": 1}, arrange, services, (target, old))

    def test_section_13(self):
        keys = Keys(("item", "user"))
        p, q, both = Pipeline.of(keys, "user; item"), Pipeline.of(keys, "item; user"), Pipeline.of(keys, "item user")
        user = Stage.of(keys, "user")
        self.assertEqual(
            (same_for(p, q, user), same_for(p, q, Stage.of(keys, "item user")), same_for(p, both, user)), (False, True, True))
        self.assertEqual(
            (hiding_stage(p, q).text, hiding_stage(p, both).text, hiding_source(p, both).text, hiding_stage(p, p ** 2).text),
            ("item user", "user", "item", "user"))
        row = ((0, (1, 1)), (1, (1, 2)), (2, (2, 2)), (3, (2, 1)))
        self.assertEqual((seen(user, row), seen(Stage.of(keys, "-"), row)), (((0, 3), (1, 2)), ((0, 1, 2, 3),)))
        self.assertEqual(
            (may_show(q, row, user, ((1, 2), (3, 0))), seen(user, may_show(p, row, user, ((1, 2), (3, 0)))[-1])),
            (None, ((1, 2), (3, 0))))

    def test_section_14(self):
        keys = Keys(("item", "user"))
        p, q, both = Pipeline.of(keys, "user; item"), Pipeline.of(keys, "item; user"), Pipeline.of(keys, "item user")
        row = ((0, (1, 1)), (1, (1, 2)), (2, (2, 2)), (3, (2, 1)))
        names = ("item", "user")
        logs = Logs(keys, ((row, row[1:] + row[:1]),))
        self.assertEqual(
            (logs.turned(0), logs.misfit(p), logs.misfit(q), [form.text for form in logs.least_forms(names)]),
            (((0, 1), (0, 2), (0, 3)), None, 0, ["user; item"]))
        self.assertEqual(
            (logs.sure(names), logs.least_forms(("item",)), logs[0] == question(keys, names)),
            ((("item", "user"), (("item", "user"),)), (), False))
        self.assertEqual(
            (question(keys, names)[0], [number for number, values in question(keys, names)[1]]),
            (((0, (0, 0)), (1, (0, 1)), (2, (1, 1)), (3, (1, 0))), [1, 2, 3, 0]))
        self.assertEqual(learned(keys, names, (("item",), ("item", "user"), ("user",))).text, "user; item")
        self.assertEqual(
            (why_no_form(keys, names, (("item",), ("item", "user"))) is None,
             why_no_form(keys, names, (("item",), ("item", "user"), ("user",))) is None),
            (False, True))
        self.assertEqual(
            [label for label in (best_question(keys, names, (p, q)), best_question(keys, names, (p, p)))],
            [("item", "user"), None])
        self.assertEqual((sample(p, names).misfit(both), sample(p, names).misfit(q) is None), (None, False))

    def test_section_15(self):
        keys = Keys(("item", "shop", "user"))
        board = Board(keys)
        board["pay"] = ("user",)
        board["pack"] = ("item",)
        board.limit("owner", Pipeline.of(keys, "shop user; item"))
        self.assertEqual(
            (board.pipeline.text, board.effect("pay", ("item", "user")), board.effect("send", ("item",))),
            ("user; item", "more", "same"))
        check_raises(self, Outside, {"name": "owner"}, board.move, "pack", 0)
        check_raises(
            self, Stopped, {"number": 0, "word": "Outside", "value": "owner"}, board.attempt,
            (("set", "ship", ("shop",)), ("arrange",), ("move", "pay", 9)))
        self.assertEqual(
            (board.attempt((("lift", "owner"), ("set", "ship", ("shop",)), ("arrange",))), board.order, board.undo(), board.order),
            ((None, None, ("pack", "pay", "ship")), ("pack", "pay", "ship"), True, ("pay", "pack")))

    def test_section_16(self):
        keys = self.keys
        self.assertEqual(
            (row_in(keys, "7: 1 -4 0\n3: 1 5 9"), row_text(((7, (1, -4, 0)),))), (((7, (1, -4, 0)), (3, (1, 5, 9))), "7: 1 -4 0"))
        check_raises(self, Unlawful, {"first": 1, "second": 2, "name": "shop"}, row_in, keys, "1: 1 4 0\n2: 2 4 0")
        text = "pay: shop user/6\npack: -\nowner < shop user"
        self.assertEqual((board_text(board_in(keys, text)), len(board_in(keys, ""))), (text, 0))
        check_raises(self, BadLine, {"number": 1}, board_in, keys, "pay: user\nowner < shop")

    def test_section_17(self):
        text = (
            "item\nuser\n\nput pay user\nput pack item\nlimit owner user; item\nmove pay 1\nplain\nkeeps user\n"
            "put pay item user\nundo\nline")
        self.assertEqual(
            answers(text),
            ["done", "done", "done", "refused Outside", "user; item", "no", "refused Outside", "yes", "user; item"])


if __name__ == "__main__":
    unittest.main()
