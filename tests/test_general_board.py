"""[2] and [3] for logs, Boards, texts and the desk: kinds of arguments and of results."""

import copy
import unittest

from keyspans.board import Board
from keyspans.desk import answers
from keyspans.errors import BadLog, BadTurns, MissingPart, NoForm, NoService
from keyspans.keys import Keys
from keyspans.logs import Logs, best_question, learned, question, sample, why_no_form
from keyspans.pipelines import Pipeline
from keyspans.stages import Stage
from keyspans.texts import board_in, board_text, row_in, row_text
from tests.calls import CallsChecks, inner_lists, shown, with_lists
from tests.helpers import check_raises

KEYS = Keys(("item", "user"))
P, Q, BOTH = Pipeline.of(KEYS, "user; item"), Pipeline.of(KEYS, "item; user"), Pipeline.of(KEYS, "item user")
ROW = ((0, (1, 1)), (1, (1, 2)), (2, (2, 2)), (3, (2, 1)))
OUT = ROW[1:] + ROW[:1]
LOGS = Logs(KEYS, ((ROW, OUT), (ROW[:2], ROW[1::-1])))
NAMES = ("item", "user")
TURNS = ((0, 0, 1, 1), (0, 1, 0, 1))
BOARD = Board(KEYS)
BOARD["pay"] = ("user",)
BOARD["pack"] = ("item",)
BOARD.limit("own", P >> P)

# Each call with its arguments, by the names that the interface shows; none of them changes a Board.
CALLS = (
    (Logs, {"keys": KEYS, "logs": ((ROW, OUT), (ROW, ROW), (ROW, OUT))}),
    (Logs, {"keys": KEYS}),
    (Logs.sent, {"p": P, "pairs": ((ROW, TURNS), (ROW[:1], ((0,), (0,))))}),
    (LOGS.turned, {"k": 0}),
    (LOGS.misfit, {"p": Q}),
    (LOGS.least_forms, {"names": NAMES}),
    (LOGS.sure, {"names": NAMES}),
    (question, {"keys": KEYS, "label": ("user", "item")}),
    (learned, {"keys": KEYS, "names": NAMES, "labels": (("item",), ("item", "user"), ("user",))}),
    (why_no_form, {"keys": KEYS, "names": NAMES, "labels": (("item",), ("item", "user"))}),
    (why_no_form, {"keys": KEYS, "names": NAMES, "labels": (("item",),)}),
    (best_question, {"keys": KEYS, "names": NAMES, "forms": (P, Q, BOTH)}),
    (sample, {"p": P, "parts": ("item", "user", "user/4")}),
    (Board, {"keys": KEYS}),
    (BOARD.effect, {"name": "pay", "fields": ("item", "user/2")}),
    (BOARD.twin, {}),
    (row_text, {"row": ROW}),
    (row_in, {"keys": KEYS, "text": "1: 2 -3\n0: 2 4"}),
    (board_text, {"board": BOARD}),
    (board_in, {"keys": KEYS, "text": "pay: user\nown < item user"}),
    (answers, {"text": "item\n\nput a item\nkeeps -\nundo\nplain"}),
)

# Each deed with its arguments, by the names that the interface shows.
DEEDS = (
    ("leave", {"name": "pay"}), ("move", {"name": "pay", "place": 0}), ("reorder", {"names": ("pay", "pack")}), ("arrange", {}),
    ("limit", {"name": "a", "pipeline": P}), ("lift", {"name": "own"}), ("send", {"row": ROW, "turns": TURNS}), ("undo", {}),
    ("attempt", {"deeds": (
        ("set", "new", ("item",)), ("order", ("pay", "pack", "new")), ("send", ROW[:1], ((0,), (0,), (0,))), ("lift", "own"),
        ("arrange",), ("move", "new", 2), ("leave", "new"), ("limit", "z", BOTH))}),
)


class BoardCallsTest(CallsChecks, unittest.TestCase):

    calls = CALLS

    def test_deeds(self):
        for deed, named in DEEDS:
            states = []
            for changed in (lambda worth: worth, with_lists, inner_lists, lambda worth: with_lists(worth, 1), lambda worth: with_lists(worth, 2)):
                given = {name: changed(worth) for name, worth in named.items()}
                kept = {name: copy.deepcopy(worth) for name, worth in given.items() if isinstance(worth, list) and deed != "attempt"}
                one, other = BOARD.twin(), BOARD.twin()
                results = (getattr(one, deed)(**given), getattr(other, deed)(*given.values()))
                self.assertEqual({name: given[name] for name in kept}, kept)
                for board, result in zip((one, other), results):
                    undo = board.twin()
                    states.append((shown(result), shown(board), undo.undo(), shown(undo)))
            with self.subTest(deed):
                self.assertEqual([state for state in states if state != states[0]], [])
        self.assertEqual(BOARD.order, ("pay", "pack"))

    def test_signs(self):
        for fields in (("item", "user/2"), ["item", "user/2"]):
            one, other = BOARD.twin(), BOARD.twin()
            one.lift("own")
            other.lift("own")
            one["new"] = fields
            other += ("new", fields) if isinstance(fields, tuple) else ["new", fields]
            self.assertEqual(one, other)
            self.assertEqual(one["new"].text, "item user/2")

    def test_kinds_of_results(self):
        board = BOARD.twin()
        for result in (
                LOGS[0], LOGS[0][0], LOGS.turned(0), LOGS.turned(0)[0], LOGS.least_forms(NAMES), LOGS.sure(NAMES), LOGS.sure(NAMES)[0],
                question(KEYS, ("item",)), question(KEYS, ("item",))[0], why_no_form(KEYS, NAMES, (("item", "user"),)),
                why_no_form(KEYS, NAMES, (("item", "user"),))[0], best_question(KEYS, NAMES, (P, Q)), board.order, board.limits,
                board.limits[0], board.logs, Board(KEYS).arrange(), board.attempt(()), board.send((), ((), ())), row_in(KEYS, "")):
            self.assertIs(type(result), tuple)
        for result in (
                LOGS == LOGS, (ROW, OUT) in LOGS, board == BOARD, "pay" in board, board.undo(), Board(KEYS).undo()):
            self.assertIs(type(result), bool)
        for result in (len(LOGS), LOGS.misfit(Q), len(board)):
            self.assertIs(type(result), int)
        for result in (LOGS.least_forms(NAMES)[0], learned(KEYS, (), ()), board.pipeline):
            self.assertIs(type(result), Pipeline)
        for result in (LOGS + LOGS, Logs.sent(P, ()), sample(P, NAMES)):
            self.assertIs(type(result), Logs)
        self.assertIs(type(BOARD["pay"]), Stage)
        self.assertIs(type(BOARD.twin()), Board)
        self.assertIs(type(answers("")), list)
        self.assertEqual((type(row_text(ROW)), type(board_text(BOARD)), type(BOARD.effect("pay", ()))), (str, str, str))
        own = BOARD.twin()
        for returned in (
                own.lift("own"), own.move("pay", 0), own.reorder(own.order), own.limit("a", BOTH), own.leave("pay")):
            self.assertIs(returned, None)

    def test_arguments_of_calls_that_raise_stay_as_they_are(self):
        logs, labels, turns, names = [[[], []], [[[1, [1, 1]]], []]], [["item", "user"]], [[0]], ["pay", "x"]
        before = repr((logs, labels, turns, names))
        check_raises(self, BadLog, {"place": 1}, Logs, KEYS, logs)
        check_raises(self, NoForm, {}, learned, KEYS, ["item", "user"], labels)
        check_raises(self, MissingPart, {"part": "item"}, sample, P, [])
        check_raises(self, BadTurns, {"place": 0}, BOARD.send, ROW, turns)
        check_raises(self, NoService, {"name": "x"}, BOARD.reorder, names)
        self.assertEqual(repr((logs, labels, turns, names)), before)

    def test_objects_do_not_change(self):
        before = (shown(LOGS), shown(BOARD), P.text)
        for call, named in CALLS:
            call(**named)
        self.assertEqual((shown(LOGS), shown(BOARD), P.text), before)


if __name__ == "__main__":
    unittest.main()
