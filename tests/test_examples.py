"""The examples of sections 3 to 9 of the document, with the answers that stand there."""

import unittest

from keyspans.carry import carried, filled, laid, together, why_no_run
from keyspans.errors import BadField, NotWithin, Ringed, Unlawful
from keyspans.given import is_ring, may_come, next_numbers, why_never
from keyspans.keys import Keys, field_of, is_field, is_part, parts_of
from keyspans.lanes import (
    costs_of, crossed, exchanges, how_many, lanes, least_stages, next_out, place, pour, row_of, timed, turns_of)
from keyspans.partings import Parting, is_parting, parting
from keyspans.pipelines import Pipeline, built
from keyspans.stages import Stage
from tests.helpers import check_raises


class ExamplesTest(unittest.TestCase):

    def setUp(self):
        self.keys = Keys.of("user\nshop tells city")

    def test_section_3(self):
        keys = self.keys
        self.assertEqual(
            (keys.names, keys.pairs, keys.text),
            (("city", "shop", "user"), (("shop", "city"),), "city\nshop\nuser\nshop tells city"))
        self.assertEqual(
            (keys.tells("#", "city"), keys.tells("city", "shop"), keys.told("shop"), "#" in keys, len(keys)),
            (True, False, ("city",), False, 3))
        self.assertEqual(
            (field_of("user/12"), field_of("#"), parts_of("user/12"), is_part("user/6"), is_field("user/1")),
            (("user", 12), ("#", 0), ("user/2", "user/3", "user/4"), False, False))
        check_raises(
            self, Ringed, {"ring": ("a", "b")}, Keys, ("a", "b", "c"), (("a", "b"), ("b", "a"), ("b", "c")))

    def test_section_4(self):
        keys = self.keys
        stage = Stage.of(keys, "shop user/6")
        self.assertEqual(
            (stage["shop"], stage["city"], stage["user"], stage["#"], len(stage), stage.fields),
            (0, 0, 6, 1, 3, ("shop", "user/6")))
        self.assertEqual(
            ("city/5" in stage, "user/3" in stage, "user/4" in stage, "user" in stage, "#" in stage),
            (True, True, False, False, False))
        two = Stage(keys, ("user/4", "city"))
        self.assertEqual(
            ((stage | two).text, (stage & two).text, stage <= two, stage & two < two),
            ("shop user/12", "city user/2", False, True))
        self.assertEqual(
            (stage.lane((7, (1, 10, -9))), stage ^ two), ((1, 10, 3), ((0, (0, 0, 0)), (1, (0, 0, 6)))))
        self.assertEqual(Stage.of(keys, "city") ^ Stage.of(keys, "shop"), ((0, (0, 0, 0)), (1, (0, 1, 0))))

    def test_section_5(self):
        keys = self.keys
        row = row_of(keys, ((1, (1, 10, 4)), (2, (1, 11, 6)), (3, (2, 20, 4)), (4, (1, 10, 9))))
        even = Stage.of(keys, "user/2")
        out = pour(even, row, (0, 1, 0, 0))
        self.assertEqual(
            ([number for number, values in out], [len(lane) for lane in lanes(even, row)], how_many(even, row)),
            ([1, 4, 2, 3], [3, 1], 4))
        self.assertEqual(
            (place(even, row, out), turns_of(even, row, next_out(even, row, out)), costs_of(even, row, out)),
            (2, (1, 0, 0, 0), (1, 2, 1, 2)))
        self.assertEqual(
            (timed(even, row, (0, 0, 0, 5), (1, 2, 1, 2)) == row, exchanges(row, out)), (True, (2, 1)))
        self.assertEqual(
            ([least.text for least in least_stages(keys, row, out)],
             crossed(even, row, (row[2], row[0], row[1], row[3]))),
            (["shop", "user"], (1, 3)))
        check_raises(
            self, Unlawful, {"first": 1, "second": 2, "name": "shop"},
            row_of, keys, ((1, (1, 10, 4)), (2, (2, 10, 5))))

    def test_section_6(self):
        keys = Keys.of("user\nshop tells item")
        p = Pipeline.of(keys, "user; item; user")
        self.assertEqual(
            (p.plain.text, p == Pipeline.of(keys, "item user"), p <= Pipeline.of(keys, "user; item"),
             Pipeline.of(keys, "user; item") < p),
            ("item user", True, False, True))
        q = Pipeline(keys, (("user/4",), ("user/9",), ("user/6",)))
        self.assertEqual(
            (q.parts, q.span("user/2"), q.span("user/8"), q.ahead("user/4", "user/3"), q.open_at(1), q.open_at(2),
             q.plain.text),
            (("user/2", "user/3", "user/4", "user/9"), (0, 2), None, True, ("user/2",), ("user/2", "user/3"),
             "user/4; user/18"))
        self.assertEqual(
            ((~p >> Stage.of(keys, "shop")).text, (p ** 0).text, len(p ** 2), bool(Pipeline.of(keys, "-; -")),
             Pipeline.of(keys, "-").plain.text),
            ("user; item; user; shop", "", 6, False, ""))
        self.assertEqual(
            (Pipeline.of(keys, "shop").parts, "user/8" in Pipeline.of(keys, "user")), (("item", "shop"), True))
        self.assertEqual(
            (built(keys, ("item", "user"), (("user", "item"),)).text, built(keys, ("shop", "user"), ()),
             built(keys, ("item", "shop", "user"), (("item", "user"), ("shop", "user"))).text),
            ("user; item", None, "shop; user"))
        check_raises(self, BadField, {"field": "user/6"}, q.span, "user/6")

    def test_section_7(self):
        keys = Keys(("item", "user"))
        p, q = Pipeline.of(keys, "item user"), Pipeline.of(keys, "user; item; user")
        self.assertEqual(
            (filled(q).text, laid(p, q), laid(q, p), laid(q, Pipeline.of(keys, "user; item"))),
            ("user; item user; user", (1,), (0, 0, 0), None))
        one, two, three = (1, (0, 1)), (2, (0, 2)), (3, (5, 1))
        self.assertEqual(
            carried(p, q, ((one, two, three), (three, one, two))),
            ((one, two, three), (one, three, two), (three, one, two), (three, one, two)))
        self.assertEqual(
            (why_no_run(q, ((one, two, three), (two, three, one))), why_no_run(q, ((one, two),))), ((1, (1, 3)), (1, ())))
        self.assertEqual(
            together(q, "user", (((one,),) * 4, ((two,),) * 4), (one, two), (two, one)),
            ((one, two), (one, two), (one, two), (two, one)))
        check_raises(self, NotWithin, {}, carried, q, Pipeline.of(keys, "user; item"), ())

    def test_section_8(self):
        keys = Keys(("item", "user"))
        p, q = Pipeline.of(keys, "item; user"), Pipeline.of(keys, "user; item")
        self.assertEqual(parting(p, q).parts, ("user", "item"))
        self.assertIs(parting(p, Pipeline.of(keys, "item user")), None)
        one, two, three, four = row_of(keys, ((0, (0, 0)), (2, (1, 0)), (3, (1, 1)), (1, (0, 1))))
        run = ((one, two, three, four), (two, one, three, four), (two, three, four, one))
        self.assertEqual(lanes(p[0], run[0]), [(one, four), (two, three)])
        self.assertEqual(lanes(p[1], run[1]), [(two, one), (three, four)])
        self.assertTrue(is_parting(p, q, Parting(run, ("user", "item"))))
        self.assertEqual(parting(p, q).cut(q), 0)

    def test_section_9(self):
        keys = Keys(("item", "user"))
        p, q = Pipeline.of(keys, "item; user"), Pipeline.of(keys, "user; item")
        row = ((1, (5, 7)), (2, (6, 7)), (3, (6, 8)), (4, (5, 8)))
        ring = why_never(q, row, (2, 3, 4, 1))
        self.assertEqual((is_ring(q, row, (2, 3, 4, 1), ring), len(ring)), (True, 4))
        self.assertTrue(is_ring(q, row, (2, 3, 4, 1), (1, 2, 3, 4)))
        self.assertTrue(is_ring(q, row, (2, 3, 4, 1), (3, 4, 1, 2)))
        self.assertIs(may_come(p, row, (2, 3, 4, 1)) is None, False)
        self.assertEqual(next_numbers(q, row, (2, 3)), (1,))


if __name__ == "__main__":
    unittest.main()
