"""[16]: Boards, against a plain table of services and limits."""

import random
import unittest
from itertools import permutations

from keyspans.board import Board
from keyspans.edits import edited, effect
from keyspans.errors import (
    BadField, BadOrder, BadTurns, MixedKeys, NoLimit, NoName, NoPlace, NoService, Outside, Stopped, Taken)
from keyspans.keys import Keys
from keyspans.lanes import lanes
from keyspans.pipelines import Pipeline
from keyspans.stages import Stage
from tests.helpers import check_raises, plain_within, things

KEYS = Keys(("item", "shop", "user"))
OTHER = Keys(("item", "shop", "user"), (("shop", "item"),))
NAMES = ("pay", "pack", "ship", "send")
LIMITS = ("all", "owner", "zoo")
STAGES = ((), ("user",), ("item",), ("user/2",), ("shop", "item/4"), ["item", "user/6"], ("user/2", "user/3"))
BOUNDS = ("", "-", "user; item", "item; user", "shop user; item", "item user; shop", "user/4; user/9; item shop", "item shop user", "#")
ROW = ((0, (1, 1, 1)), (3, (1, 2, 1)), (1, (2, 1, 3)), (7, (1, 1, 2)))


def some_board():
    board = Board(KEYS)
    board["pay"] = ("user",)
    board["pack"] = ("item",)
    board.limit("owner", Pipeline.of(KEYS, "shop user; item"))
    return board


def state(board):
    """All that can be seen of a Board."""
    return (
        board.order, tuple(board[name].text for name in board.order), board.limits, board.logs, board.pipeline.text, len(board),
        board.schema)


def undone(board):
    """All states that undo leads to, from the present one on."""
    twin, states = board.twin(), [state(board)]
    while twin.undo():
        states.append(state(twin))
    return states


class Refused(Exception):
    """What the plain table refuses: the name of the error and the value that it keeps."""


class Table:
    """Services and limits in plain lists, changed by the same deeds; each limit is looked at by <=."""

    def __init__(self):
        self.services, self.limits, self.logs = [], {}, []

    def copy(self):
        other = Table()
        other.services, other.limits, other.logs = list(self.services), dict(self.limits), list(self.logs)
        return other

    def names(self):
        return [name for name, _ in self.services]

    def pipeline(self, services=None):
        return Pipeline(KEYS, [stage for _, stage in (self.services if services is None else services)])

    def stand(self, services):
        for name in sorted(self.limits):
            if not plain_within(self.pipeline(services), self.limits[name]):
                raise Refused("Outside", name)
        self.services = services

    def found(self, name):
        if name not in self.names():
            raise Refused("NoService", name)
        return self.names().index(name)

    def set(self, name, fields):
        for field in fields:
            if field.split("/")[0] not in ("#", *KEYS.names):
                raise Refused("NoName", field.split("/")[0])
        stage = Stage(KEYS, fields)
        services = [(own, stage if own == name else old) for own, old in self.services]
        self.stand(services if name in self.names() else services + [(name, stage)])

    def leave(self, name):
        at = self.found(name)
        self.stand(self.services[:at] + self.services[at + 1:])

    def move(self, name, place):
        at = self.found(name)
        if place < 0 or place >= len(self.services):
            raise Refused("NoPlace", place)
        rest = self.services[:at] + self.services[at + 1:]
        self.stand(rest[:place] + [self.services[at]] + rest[place:])

    def order(self, names):
        for at, name in enumerate(names):
            self.found(name)
            if name in names[:at]:
                raise Refused("NoService", name)
        if len(names) != len(self.services):
            raise Refused("BadOrder", None)
        self.stand([self.services[self.found(name)] for name in names])

    def arrange(self):
        for names in permutations(sorted(self.names())):
            try:
                self.order(names)
                return names
            except Refused:
                pass
        raise AssertionError("no order is within the limits")

    def limit(self, name, pipeline):
        if pipeline.schema != KEYS:
            raise Refused("MixedKeys", None)
        if not plain_within(self.pipeline(), pipeline):
            raise Refused("Outside", name)
        self.limits[name] = pipeline

    def lift(self, name):
        if name not in self.limits:
            raise Refused("NoLimit", name)
        del self.limits[name]

    def send(self, row, turns):
        try:
            p = self.pipeline()
            out = p(row, turns)
        except BadTurns as error:
            raise Refused("BadTurns", error.place) from None
        self.logs.append((row, out))
        return out

    def do(self, deed):
        return getattr(self, deed[0])(*deed[1:])

    def state(self):
        limits = tuple((name, self.limits[name].text or "-") for name in sorted(self.limits))
        texts = tuple(stage.text for _, stage in self.services)
        return (
            tuple(self.names()), texts, limits, tuple(self.logs), "; ".join(texts), len(self.services), KEYS)


def do_on(board, deed):
    word = deed[0]
    if word == "set":
        board[deed[1]] = deed[2]
        return None
    calls = {
        "leave": board.leave, "move": board.move, "order": board.reorder, "arrange": board.arrange, "limit": board.limit,
        "lift": board.lift, "send": board.send}
    return calls[word](*deed[1:])


def kept_value(error):
    """The first value that an error keeps."""
    return next(iter(vars(error).values()), None)


def some_turns(chosen, p):
    row, turns = ROW, []
    for stage in p.stages:
        order = [at for at, lane in enumerate(lanes(stage, row)) for _ in lane]
        chosen.shuffle(order)
        turns.append(tuple(order))
        row = Pipeline(KEYS, (stage,))(row, (order,))
    return tuple(turns)


def some_deed(chosen, table):
    word = chosen.choice(("set", "set", "set", "leave", "move", "move", "order", "arrange", "limit", "limit", "lift", "send"))
    name = chosen.choice(NAMES)
    if word == "set":
        return word, name, chosen.choice((*STAGES, ("nobody/2", "user")))
    if word == "leave":
        return word, name
    if word == "move":
        return word, name, chosen.choice((-1, 0, 0, 1, 2, 3, 4))
    if word == "order":
        names = table.names()
        chosen.shuffle(names)
        return word, tuple(chosen.choice((names, names, names[1:], names + ["pay"], ["xyz", "pay", "pay"])))
    if word == "arrange":
        return (word,)
    if word == "limit":
        bound = Pipeline.of(KEYS, chosen.choice(BOUNDS))
        near = [table.pipeline(), table.pipeline() >> bound, ~table.pipeline(), bound, Pipeline(OTHER)]
        return word, chosen.choice(LIMITS), chosen.choice(near)
    if word == "lift":
        return word, chosen.choice(LIMITS)
    turns = some_turns(chosen, table.pipeline())
    return word, ROW, chosen.choice((turns, turns, turns[:-1], turns + ((0,),)))


class TableTest(unittest.TestCase):

    def one(self, board, table, deed):
        """Does one deed on both; whether it was done."""
        before = table.copy()
        try:
            expected = table.do(deed)
        except Refused as refused:
            word, kept = refused.args
            with self.assertRaises((LookupError, ValueError)) as caught:
                do_on(board, deed)
            self.assertEqual((type(caught.exception).__name__, kept_value(caught.exception)), (word, kept))
            self.assertEqual(table.state(), before.state())
            return False
        self.assertEqual(do_on(board, deed), expected)
        return True

    def attempt(self, board, table, deeds):
        """Attempts deeds on both; the table behind them, None if one is refused."""
        trial, returned = table.copy(), []
        for number, deed in enumerate(deeds):
            try:
                returned.append(trial.do(deed))
            except Refused as refused:
                held = {"number": number, "word": refused.args[0], "value": refused.args[1]}
                check_raises(self, Stopped, held, board.attempt, deeds)
                return None
        self.assertEqual(board.attempt(deeds), tuple(returned))
        return trial

    def test_any_deeds(self):
        chosen = random.Random(1)
        words = []
        for _ in range(40):
            board, past = Board(KEYS), [Table()]
            for _ in range(40):
                table = past[-1].copy()
                kind = chosen.random()
                if kind < .15:
                    self.assertIs(board.undo(), len(past) > 1)
                    past = past[:max(1, len(past) - 1)]
                elif kind < .3:
                    deeds = tuple(some_deed(chosen, table) for _ in range(chosen.randrange(4)))
                    trial = self.attempt(board, table, deeds)
                    words.append(("attempt", trial is not None))
                    past.extend([] if trial is None else [trial])
                else:
                    deed = some_deed(chosen, table)
                    done = self.one(board, table, deed)
                    words.append((deed[0], done))
                    past.extend([table] if done else [])
                self.assertEqual(state(board), past[-1].state())
                for _, limit in [(name, past[-1].limits[name]) for name in past[-1].limits]:
                    self.assertTrue(board.pipeline <= limit)
            self.assertEqual(undone(board), [own.state() for own in past[::-1]])
        for word in ("set", "move", "order", "limit", "lift", "send", "leave", "attempt"):
            for done in (True, False):
                self.assertGreater(words.count((word, done)), 5)
        self.assertGreater(words.count(("arrange", True)), 5)


class BoardTest(unittest.TestCase):

    def test_without_services_and_limits(self):
        board = Board(keys=KEYS)
        self.assertEqual(state(board), ((), (), (), (), "", 0, KEYS))
        self.assertIs("pay" in board, False)
        self.assertEqual((board.arrange(), board.undo(), board.undo()), ((), True, False))
        check_raises(self, NoService, {"name": "pay"}, lambda: board["pay"])
        check_raises(self, NoService, {"name": "pay"}, board.leave, "pay")
        check_raises(self, NoService, {"name": "pay"}, board.move, "pay", 0)
        check_raises(self, NoService, {"name": "pay"}, board.reorder, ("pay",))
        check_raises(self, NoLimit, {"name": "pay"}, board.lift, "pay")
        board.reorder(())
        self.assertEqual(board.send(ROW, ()), ROW)
        self.assertEqual(board.logs, ((ROW, ROW),))
        for text in BOUNDS:
            board.limit("owner", Pipeline.of(KEYS, text))
        self.assertEqual(board.limits, (("owner", "#"),))
        self.assertRaises(TypeError, iter, board)

    def test_set_and_add(self):
        board = Board(KEYS)
        board["pay"] = ("user/4", "user/6")
        board += ("pack", ["item"])
        board += ["ship", ()]
        self.assertEqual(state(board)[:2], (("pay", "pack", "ship"), ("user/12", "item", "-")))
        board["pack"] = ["shop"]
        self.assertEqual((board["pack"], "pack" in board, len(board)), (Stage.of(KEYS, "shop"), True, 3))
        self.assertEqual(board.pipeline.text, "user/12; shop; -")
        before = undone(board)

        def add(pair):
            other = board
            other += pair

        check_raises(self, Taken, {"name": "pay"}, add, ("pay", ("user/1",)))
        check_raises(self, BadField, {"field": "user/1"}, add, ("new", ("nobody", "user/1")))
        check_raises(self, NoName, {"name": "nobody"}, add, ("new", ("user", "nobody")))
        check_raises(self, BadField, {"field": ""}, board.__setitem__, "pay", ("",))
        self.assertEqual(undone(board), before)

    def test_what_stage_raises_comes_ahead_of_outside(self):
        board = some_board()
        before = undone(board)
        check_raises(self, NoName, {"name": "nobody"}, board.__setitem__, "pay", ("item", "nobody"))
        check_raises(self, BadField, {"field": "x/0"}, board.__setitem__, "pay", ("item", "x/0"))
        check_raises(self, Outside, {"name": "owner"}, board.__setitem__, "pay", ("item", "user"))
        check_raises(self, Outside, {"name": "owner"}, board.__setitem__, "new", ("user",))
        board.limit("all", Pipeline.of(KEYS, "user; item"))
        check_raises(self, Outside, {"name": "all"}, board.__setitem__, "new", ("user",))
        check_raises(self, Outside, {"name": "all"}, board.move, "pack", 0)
        check_raises(self, Outside, {"name": "all"}, board.reorder, ("pack", "pay"))
        check_raises(self, NoService, {"name": "xyz"}, board.reorder, ("pack", "xyz"))
        check_raises(self, BadOrder, {}, board.reorder, ("pack",))
        check_raises(self, NoPlace, {"place": 2}, board.move, "pack", 2)
        check_raises(self, NoPlace, {"place": -1}, board.move, "pack", -1)
        check_raises(self, NoService, {"name": "xyz"}, board.move, "xyz", 2)
        board.lift("all")
        check_raises(self, Outside, {"name": "owner"}, board.move, "pack", 0)
        self.assertEqual(undone(board)[2:], before)

    def test_limits(self):
        board = some_board()
        check_raises(self, MixedKeys, {}, board.limit, "owner", Pipeline.of(OTHER, "-"))
        check_raises(self, MixedKeys, {}, board.limit, "new", Pipeline(Keys(())))
        check_raises(self, Outside, {"name": "new"}, board.limit, "new", Pipeline.of(KEYS, "item; user"))
        check_raises(self, Outside, {"name": "owner"}, board.limit, "owner", Pipeline(KEYS))
        board.limit("all", Pipeline.of(KEYS, "#"))
        board.limit("zoo", Pipeline.of(KEYS, "user; item"))
        board.limit("owner", Pipeline.of(KEYS, "user; -; item"))
        self.assertEqual(board.limits, (("all", "#"), ("owner", "user; -; item"), ("zoo", "user; item")))
        board.lift("owner")
        check_raises(self, NoLimit, {"name": "owner"}, board.lift, "owner")
        self.assertEqual(board.limits, (("all", "#"), ("zoo", "user; item")))
        empty = Board(KEYS)
        empty.limit("none", Pipeline(KEYS))
        self.assertEqual(empty.limits, (("none", "-"),))
        empty["pay"] = ()
        check_raises(self, Outside, {"name": "none"}, empty.__setitem__, "pay", ("user/2",))

    def test_effect_whatever_the_limits(self):
        board = some_board()
        before = undone(board)
        p = board.pipeline
        for fields in STAGES:
            text = Stage(KEYS, fields).text
            self.assertEqual(board.effect("new", fields), effect(p, ("put", 2, text)))
            changed = edited(edited(p, ("drop", 0)), ("put", 0, text))
            word = {(True, True): "same", (True, False): "less", (False, True): "more", (False, False): "neither"}
            self.assertEqual(board.effect("pay", fields), word[plain_within(changed, p), plain_within(p, changed)])
        self.assertEqual(board.effect(name="pay", fields=["shop"]), "neither")
        check_raises(self, BadField, {"field": "x/1"}, board.effect, "pay", ("nobody", "x/1"))
        check_raises(self, NoName, {"name": "nobody"}, board.effect, "new", ("nobody",))
        self.assertEqual(undone(board), before)

    def test_arrange(self):
        board = Board(KEYS)
        for name, fields in (("d", ("user",)), ("c", ("item",)), ("b", ("shop",)), ("a", ())):
            board[name] = fields
        self.assertEqual((board.arrange(), board.order), (("a", "b", "c", "d"), ("a", "b", "c", "d")))
        board.reorder(["d", "b", "a", "c"])
        board.limit("owner", Pipeline.of(KEYS, "user shop; item shop"))
        self.assertEqual(board.arrange(), ("a", "b", "d", "c"))
        board.limit("zoo", Pipeline.of(KEYS, "shop; user; item"))
        check_raises(self, Outside, {"name": "first"}, board.limit, "first", Pipeline.of(KEYS, "user; item shop"))
        self.assertEqual(board.arrange(), ("a", "b", "d", "c"))

    def test_arrange_of_eight_services_within_several_limits(self):
        chosen = random.Random(2)
        keys = Keys(("a", "b", "c", "d", "e"))
        for _ in range(5):
            board = Board(keys)
            names = ["s" + letter for letter in "abcdefgh"]
            chosen.shuffle(names)
            for name in names:
                board[name] = chosen.sample(("a", "b", "c/4", "d/6", "e", "#/2"), 1)
            limits = [board.pipeline >> Stage.of(keys, field) for field in ("a", "c/4", "e")]
            for number, limit in enumerate(limits):
                board.limit("l" + "abc"[number], limit)
            stages = {name: board[name] for name in names}
            order = board.arrange()
            self.assertEqual(board.order, order)
            for own in permutations(sorted(names)):
                p = Pipeline(keys, [stages[name] for name in own])
                if all(p <= limit for limit in limits):
                    break
            self.assertEqual(order, own)

    def test_send(self):
        board = some_board()
        row = [[1, [1, 2, 3]], [2, [1, 3, 4]]]
        out = board.send(row, [[1, 0], [0, 0]])
        self.assertEqual(out, ((2, (1, 3, 4)), (1, (1, 2, 3))))
        row[0][1][0] = 9
        row.pop()
        self.assertEqual(board.logs, ((((1, (1, 2, 3)), (2, (1, 3, 4))), out),))
        for turns, place in ((((0, 1),), 1), (((0, 1), (0, 0), ()), 2), (((0, 0), (9,)), 0)):
            check_raises(self, BadTurns, {"place": place}, board.send, ((1, (1, 2, 3)), (2, (1, 3, 4))), turns)
        self.assertEqual(len(board.logs), 1)
        self.assertEqual(board.send(row=out, turns=((0, 1), (0, 0))), out)
        self.assertEqual((board.undo(), len(board.logs), board.undo(), board.logs), (True, 1, True, ()))

    def test_failed_deeds_leave_undo_as_it_was(self):
        board = some_board()
        before = undone(board)
        deeds = (
            (NoService, board.leave, "xyz"), (NoLimit, board.lift, "xyz"), (Outside, board.move, "pack", 0),
            (BadOrder, board.reorder, ()), (Outside, board.limit, "new", Pipeline(KEYS)), (BadTurns, board.send, ROW, ()),
            (Stopped, board.attempt, (("leave", "pay"), ("leave", "pay"))), (NoName, board.__setitem__, "a", ("nobody",)))
        for error, call, *given in deeds:
            check_raises(self, error, {}, call, *given)
            self.assertEqual(undone(board), before)
        self.assertEqual(len(before), 4)

    def test_attempt(self):
        board = some_board()
        before = undone(board)
        for deeds, number, word, value in (
                ((("move", "pack", 0),), 0, "Outside", "owner"), ((("set", "pay", ("user/0",)),), 0, "BadField", "user/0"),
                ((("lift", "owner"), ("set", "a", ("x",))), 1, "NoName", "x"), ((("leave", "pay"), ("leave", "pay")), 1, "NoService", "pay"),
                ((("lift", "owner"), ("lift", "owner")), 1, "NoLimit", "owner"), ((("move", "pay", 2),), 0, "NoPlace", 2),
                ((("arrange",), ("order", ("pay",))), 1, "BadOrder", None), ((("order", ("pay", "pay")),), 0, "NoService", "pay"),
                ((("limit", "a", Pipeline(OTHER)),), 0, "MixedKeys", None), ((("limit", "a", Pipeline(KEYS)),), 0, "Outside", "a"),
                ((("send", (), ((), ())), ("send", (), ((),))), 1, "BadTurns", 1)):
            check_raises(self, Stopped, {"number": number, "word": word, "value": value}, board.attempt, deeds)
            check_raises(self, Stopped, {"number": number}, board.attempt, [list(deed) for deed in deeds])
            self.assertEqual(undone(board), before)
        # Each deed alone must be within the limits.
        check_raises(
            self, Stopped, {"number": 0, "word": "Outside", "value": "owner"}, board.attempt, (("move", "pack", 0), ("lift", "owner")))
        made = board.attempt(deeds=[
            ["lift", "owner"], ["move", "pack", 0], ["set", "a", ["shop"]], ["arrange"], ["order", ["pay", "a", "pack"]],
            ["limit", "z", Pipeline.of(KEYS, "#")], ["leave", "a"], ["send", list(ROW[:1]), [[0], [0]]]])
        self.assertEqual(made, (None, None, None, ("a", "pack", "pay"), None, None, None, ROW[:1]))
        self.assertEqual(state(board), (("pay", "pack"), ("user", "item"), (("z", "#"),), ((ROW[:1], ROW[:1]),), "user; item", 2, KEYS))
        self.assertEqual(undone(board)[1:], before)
        self.assertEqual(board.attempt(()), ())
        self.assertEqual(undone(board)[2:], before)
        self.assertEqual((board.undo(), board.undo(), undone(board)), (True, True, before))

    def test_undo(self):
        board = some_board()
        states = [state(board)]
        deeds = (
            lambda: board.move("pay", 0), lambda: board.reorder(("pay", "pack")), lambda: board.lift("owner"), board.arrange,
            lambda: board.limit("z", Pipeline.of(KEYS, "#")), lambda: board.send((), ((), ())), lambda: board.leave("pay"),
            lambda: board.attempt(()), lambda: board.__setitem__("pack", ("item",)))
        for deed in deeds:
            deed()
            states.append(state(board))
        self.assertEqual(undone(board)[:len(states)], states[::-1])
        self.assertEqual([board.undo() for _ in range(14)], [True] * 12 + [False] * 2)
        self.assertEqual(board, Board(KEYS))
        # What is undone is gone; a deed behind it is undone first.
        board["a"] = ()
        board["b"] = ()
        board.undo()
        board["c"] = ()
        self.assertEqual([own[0] for own in undone(board)], [("a", "c"), ("a",), ()])

    def test_twin(self):
        board = some_board()
        board.send((), ((), ()))
        twin = board.twin()
        before = undone(board)
        self.assertEqual(undone(twin), before)
        self.assertIs(twin == board, True)
        twin.undo()
        twin.leave("pay")
        twin["new"] = ("item",)
        twin.limit("z", Pipeline.of(KEYS, "#"))
        self.assertEqual(undone(board), before)
        self.assertIs(twin == board, False)
        kept = undone(twin)
        board.undo()
        board.undo()
        board["x"] = ("shop",)
        self.assertEqual(undone(twin), kept)
        self.assertEqual(undone(twin)[3:], before[1:])

    def test_equal(self):
        board = some_board()
        self.assertIs(board == some_board(), True)
        self.assertIs(board != some_board(), False)
        changes = (
            lambda other: other.leave("pay"), lambda other: other.lift("owner"), lambda other: other.send((), ((), ())),
            lambda other: other.__setitem__("pay", ("user/2",)), lambda other: other.__setitem__("new", ()),
            lambda other: other.limit("owner", Pipeline.of(KEYS, "shop user; item; -")),
            lambda other: other.limit("z", Pipeline.of(KEYS, "#")),
            lambda other: other.attempt((("lift", "owner"), ("move", "pay", 1))))
        for change in changes:
            other = some_board()
            change(other)
            self.assertIs(board == other, False)
            self.assertIs(other == board, False)
            other.undo()
            self.assertIs(other == board, True)
        # Limits are equal by their texts, and deeds to undo do not count.
        one, two = Board(KEYS), Board(KEYS)
        one.limit("a", Pipeline(KEYS))
        two.limit("a", Pipeline.of(KEYS, "-"))
        two.attempt(())
        self.assertIs(one == two, True)
        self.assertIs(Board(KEYS) == Board(OTHER), False)
        for thing in (*things(), "", (), KEYS):
            self.assertIs(Board(KEYS) == thing, False)

    def test_what_is_passed_is_copied(self):
        board = Board(KEYS)
        fields, names = ["user"], ["pay", "pack"]
        board["pay"] = fields
        board["pack"] = fields
        board.reorder(names)
        fields.append("item")
        names.reverse()
        deeds = [["set", "ship", fields], ["order", ["ship", "pay", "pack"]]]
        board.attempt(deeds)
        fields.clear()
        deeds.clear()
        self.assertEqual(state(board)[:2], (("ship", "pay", "pack"), ("item user", "user", "user")))
        keys = Keys(("a",))
        self.assertEqual(Board(keys).schema, keys)

    def test_arguments_stay_as_they_are(self):
        board = some_board()
        fields, names, row, turns = ["user"], ["pay", "pack"], [[1, [1, 1, 1]]], [[0], [0]]
        deeds = [["set", "pay", fields], ["order", names], ["send", row, turns]]
        board["pay"] = fields
        board.reorder(names)
        board.effect("pay", fields)
        board.send(row, turns)
        board.attempt(deeds)
        self.assertEqual((fields, names, row, turns), (["user"], ["pay", "pack"], [[1, [1, 1, 1]]], [[0], [0]]))
        self.assertEqual(deeds, [["set", "pay", fields], ["order", names], ["send", row, turns]])

    def test_properties_without_setters(self):
        board = some_board()
        for name in ("schema", "pipeline", "order", "limits", "logs"):
            held = getattr(board, name)
            with self.assertRaises(AttributeError):
                setattr(board, name, held)

    def test_send_of_many_records_through_eight_services(self):
        chosen = random.Random(3)
        keys = Keys(("a", "b", "c", "d", "e"))
        board = Board(keys)
        for letter in "abcdefgh":
            board["s" + letter] = chosen.sample(("a/2", "b", "c/4", "d/6", "e", "#/3"), 2)
        row = tuple((at, tuple(chosen.randrange(3) for _ in keys.names)) for at in range(24))
        turns, out = [], row
        for stage in board.pipeline.stages:
            order = [at for at, lane in enumerate(lanes(stage, out)) for _ in lane]
            chosen.shuffle(order)
            turns.append(order)
            out = Pipeline(keys, (stage,))(out, (order,))
        self.assertEqual(board.send(row, turns), out)
        self.assertEqual(board.logs, ((row, out),))


if __name__ == "__main__":
    unittest.main()
