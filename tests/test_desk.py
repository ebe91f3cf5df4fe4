"""Points [1], [2], [3] and [9], and the interface's section rrdesk/desk.py:
a desk, who enters and leaves, and the refusals of all deeds."""

import inspect
import unittest

from helper import BAD_NAMES, NAMED, DeskCase, desk_with, many_names, view
from rrdesk.desk import Desk
from rrdesk.errors import (DeskError, Full, IsReady, Known, NoDesk, NoName,
                           NoRank, NoSpan, NotReady, Unknown)

BAD_RANKS = [-1, -100, 100, 101, 10 ** 15]
BAD_SLEEPS = [0, -1, -1000, 1001, 10 ** 15]
BAD_RUNS = [-1, -1000, 1001, 10 ** 15]


class TestInterface(unittest.TestCase):

    def test_it_is_defined_in_its_file(self):
        self.assertEqual(Desk.__module__, "rrdesk.desk")

    def test_each_method_stands_in_the_class_with_its_arguments(self):
        listed = {"__init__": ["pace", "room"], "enter": ["name", "rank"],
                  "leave": ["name"], "sleep": ["name", "many"],
                  "wait": ["name", "bell"], "wake": ["name"],
                  "ring": ["bell"], "rerank": ["name", "rank"], "turn": [],
                  "run": ["many"], "foretold": ["many"], "names": [],
                  "ready": [], "state": ["name"], "rank": ["name"],
                  "waited": ["name"], "within": ["name"], "left": ["name"],
                  "bell": ["name"], "twin": []}
        for name, arguments in listed.items():
            with self.subTest(name=name):
                self.assertIn(name, vars(Desk))
                told = list(inspect.signature(vars(Desk)[name]).parameters)
                self.assertEqual(told[1:], arguments)


class TestNewDesk(DeskCase):

    def test_values_of_a_new_desk(self):
        for pace in (1, 2, 999, 1000):
            for room in (1, 2, 59, 60):
                with self.subTest(pace=pace, room=room):
                    desk = Desk(pace, room)
                    self.assert_whole(desk.pace, pace)
                    self.assert_whole(desk.room, room)
                    self.assert_whole(desk.now, 0)
                    self.assertEqual(desk.names(), [])
                    self.assertEqual(desk.ready(), [])

    def test_pace_or_room_out_of_bounds(self):
        bad = [(pace, room) for pace in (0, -1, -1000, 1001, 10 ** 15)
               for room in (1, 60)]
        bad += [(pace, room) for pace in (1, 1000)
                for room in (0, -1, -60, 61, 10 ** 15)]
        bad += [(0, 0), (1001, 61), (0, 61), (1001, -1)]
        for pace, room in bad:
            with self.subTest(pace=pace, room=room):
                with self.assertRaises(DeskError) as held:
                    Desk(pace, room)
                self.assertIs(type(held.exception), NoDesk)

    def test_two_desks_have_nothing_to_do_with_one_another(self):
        one = Desk(10, 5)
        other = Desk(10, 5)
        one.enter("a", 5)
        one.run(3)
        self.assertEqual(other.names(), [])
        self.assertEqual(other.now, 0)
        other.enter("a", 7)
        other.enter("b", 8)
        other.wait("a", "bell")
        self.assertEqual(one.names(), ["a"])
        self.assertEqual(one.state("a"), "ready")
        self.assertEqual(one.rank("a"), 5)
        self.assertEqual(one.ring("bell"), [])
        self.assertEqual(other.state("a"), "waiting")


class TestEnter(DeskCase):

    def test_who_enters_is_ready_at_the_end_of_the_line(self):
        desk = Desk(10, 60)
        told = []
        for name in ("b", "a", "c", "0", "abcdefghijkl", "desk"):
            self.assertIsNone(desk.enter(name, 7))
            told.append(name)
            self.assertEqual(desk.names(), told)
            self.assertEqual(desk.state(name), "ready")
            self.assert_whole(desk.rank(name), 7)
            self.assert_whole(desk.waited(name), 0)
            self.assertIsNone(desk.left(name))
            self.assertIsNone(desk.bell(name))
        self.assertEqual(desk.now, 0)

    def test_who_enters_later_has_waited_nought(self):
        desk = desk_with([("a", 9)])
        desk.run(25)
        desk.enter("b", 3)
        self.assertEqual(desk.names(), ["a", "b"])
        self.assert_whole(desk.waited("b"), 0)
        desk.run(4)
        self.assert_whole(desk.waited("b"), 4)

    def test_who_enters_stands_behind_those_asleep_and_waiting(self):
        desk = desk_with([("a", 1), ("b", 1), ("c", 1)])
        desk.sleep("a", 5)
        desk.wait("b", "bell")
        desk.enter("d", 1)
        self.assertEqual(desk.names(), ["c", "a", "b", "d"])

    def test_each_rank(self):
        desk = Desk(1, 60)
        for rank in range(100):
            desk.enter("a", rank)
            self.assert_whole(desk.rank("a"), rank)
            desk.leave("a")

    def test_no_name(self):
        for name in BAD_NAMES:
            with self.subTest(name=name):
                self.assert_refused(NoName, desk_with([("a", 5)]),
                                    "enter", name, 5)

    def test_no_rank(self):
        for rank in BAD_RANKS:
            with self.subTest(rank=rank):
                self.assert_refused(NoRank, desk_with([("a", 5)]),
                                    "enter", "b", rank)

    def test_known(self):
        for deed in (("run", 3), ("sleep", "a", 2), ("wait", "a", "bell")):
            desk = desk_with([("a", 5), ("b", 6)])
            getattr(desk, deed[0])(*deed[1:])
            for rank in (5, 7):
                with self.subTest(deed=deed, rank=rank):
                    self.assert_refused(Known, desk, "enter", "a", rank)

    def test_full(self):
        for room in (1, 2, 59, 60):
            callers = [(name, 5) for name in many_names(room)]
            desk = desk_with(callers, room=room)
            with self.subTest(room=room):
                self.assertEqual(desk.names(), many_names(room))
                self.assert_refused(Full, desk, "enter", "b", 5)
                # Who is asleep or waiting takes its place, too.
                desk.sleep("c0", 3)
                self.assert_refused(Full, desk, "enter", "b", 5)
                desk.wake("c0")
                desk.wait("c0", "bell")
                self.assert_refused(Full, desk, "enter", "b", 5)
                desk.leave("c0")
                desk.enter("b", 5)
                self.assertEqual(desk.names(), many_names(room)[1:] + ["b"])

    def test_two_refusals_that_are_due_at_once(self):
        full = desk_with([("a", 5), ("b", 6)], room=2)
        roomy = desk_with([("a", 5), ("b", 6)], room=3)
        for rank in BAD_RANKS:
            with self.subTest(rank=rank):
                self.assert_refused(NoName, roomy, "enter", "A", rank)
                self.assert_refused(NoRank, roomy, "enter", "a", rank)
                self.assert_refused(NoRank, full, "enter", "c", rank)
                self.assert_refused(NoName, full, "enter", "", rank)
                self.assert_refused(NoRank, full, "enter", "a", rank)
        self.assert_refused(NoName, full, "enter", "a b", 5)
        self.assert_refused(Known, full, "enter", "a", 5)


class TestLeave(DeskCase):

    def test_the_others_stay_in_their_order(self):
        for gone in ("a", "b", "c", "d"):
            desk = desk_with([("a", 1), ("b", 2), ("c", 3), ("d", 4)])
            with self.subTest(gone=gone):
                self.assertIsNone(desk.leave(gone))
                self.assertEqual(desk.names(),
                                 [name for name in "abcd" if name != gone])
                self.assertEqual(desk.now, 0)
                self.assertNotIn(gone, desk.ready())
                self.assertNotIn(gone, desk.run(30))
                self.assert_refused(Unknown, desk, "leave", gone)

    def test_who_is_asleep_or_waiting_leaves(self):
        desk = desk_with([("a", 1), ("b", 2), ("c", 3)])
        desk.sleep("a", 2)
        desk.wait("b", "bell")
        desk.leave("a")
        desk.leave("b")
        self.assertEqual(desk.names(), ["c"])
        self.assertEqual(desk.ring("bell"), [])
        self.assertEqual(desk.run(3), ["c", "c", "c"])
        self.assertEqual(desk.names(), ["c"])

    def test_a_name_that_left_enters_anew(self):
        for deeds in ([], [("sleep", "a", 4)], [("wait", "a", "bell")]):
            desk = desk_with([("a", 1), ("b", 90)])
            desk.run(5)
            for deed in deeds:
                getattr(desk, deed[0])(*deed[1:])
            desk.leave("a")
            self.assertEqual(desk.names(), ["b"])
            desk.enter("a", 3)
            with self.subTest(deeds=deeds):
                self.assertEqual(desk.names(), ["b", "a"])
                self.assertEqual(desk.state("a"), "ready")
                self.assert_whole(desk.rank("a"), 3)
                self.assert_whole(desk.waited("a"), 0)
                self.assertIsNone(desk.left("a"))
                self.assertIsNone(desk.bell("a"))
                self.assertEqual(desk.ring("bell"), [])
                desk.run(4)
                self.assert_whole(desk.waited("a"), 4)

    def test_the_last_one_leaves(self):
        desk = desk_with([("a", 1)])
        desk.leave("a")
        self.assertEqual(desk.names(), [])
        self.assertEqual(desk.ready(), [])
        self.assertIsNone(desk.turn())


class TestUnknown(DeskCase):

    def setUp(self):
        self.desk = desk_with([("a", 5), ("b", 6), ("c", 7)])
        self.desk.sleep("b", 4)
        self.desk.wait("c", "bell")
        self.desk.run(2)

    def test_of_every_deed_that_is_told_a_name(self):
        for deed, more in NAMED:
            for name in ["d", "bell", "aa"] + BAD_NAMES:
                with self.subTest(deed=deed, name=name):
                    self.assert_refused(Unknown, self.desk, deed, name, *more)

    def test_on_a_new_desk(self):
        for deed, more in NAMED:
            for name in ("a", ""):
                with self.subTest(deed=deed, name=name):
                    self.assert_refused(Unknown, Desk(10, 5), deed, name,
                                        *more)

    def test_of_a_name_that_left(self):
        for gone in ("a", "b", "c"):
            self.desk.leave(gone)
            for deed, more in NAMED:
                with self.subTest(deed=deed, gone=gone):
                    self.assert_refused(Unknown, self.desk, deed, gone, *more)

    def test_ahead_of_all_other_refusals(self):
        for name in ("d", "", "A"):
            for many in BAD_SLEEPS:
                self.assert_refused(Unknown, self.desk, "sleep", name, many)
            for bell in BAD_NAMES:
                self.assert_refused(Unknown, self.desk, "wait", name, bell)
            for rank in BAD_RANKS:
                self.assert_refused(Unknown, self.desk, "rerank", name, rank)


class TestOtherRefusals(DeskCase):

    def setUp(self):
        self.desk = desk_with([("a", 5), ("b", 6), ("c", 7)])
        self.desk.sleep("b", 4)
        self.desk.wait("c", "bell")
        self.desk.run(2)

    def test_no_span(self):
        for many in BAD_SLEEPS:
            with self.subTest(many=many):
                self.assert_refused(NoSpan, self.desk, "sleep", "a", many)
        for many in BAD_RUNS:
            for deed in ("run", "foretold"):
                with self.subTest(deed=deed, many=many):
                    self.assert_refused(NoSpan, self.desk, deed, many)
                    self.assert_refused(NoSpan, Desk(1, 1), deed, many)

    def test_no_span_ahead_of_not_ready(self):
        for many in BAD_SLEEPS:
            for name in ("b", "c"):
                with self.subTest(many=many, name=name):
                    self.assert_refused(NoSpan, self.desk, "sleep", name, many)

    def test_no_name_of_a_bell(self):
        for bell in BAD_NAMES:
            with self.subTest(bell=bell):
                self.assert_refused(NoName, self.desk, "ring", bell)
                self.assert_refused(NoName, self.desk, "wait", "a", bell)

    def test_no_name_ahead_of_not_ready(self):
        for bell in BAD_NAMES:
            for name in ("b", "c"):
                with self.subTest(bell=bell, name=name):
                    self.assert_refused(NoName, self.desk, "wait", name, bell)

    def test_no_rank(self):
        for rank in BAD_RANKS:
            for name in ("b", "c"):
                with self.subTest(rank=rank, name=name):
                    self.assert_refused(NoRank, self.desk, "rerank", name,
                                        rank)

    def test_no_rank_ahead_of_is_ready(self):
        for rank in BAD_RANKS:
            with self.subTest(rank=rank):
                self.assert_refused(NoRank, self.desk, "rerank", "a", rank)

    def test_not_ready(self):
        for name in ("b", "c"):
            for many in (1, 2, 1000):
                self.assert_refused(NotReady, self.desk, "sleep", name, many)
            for bell in ("bell", "other", "a"):
                self.assert_refused(NotReady, self.desk, "wait", name, bell)
            self.assert_refused(NotReady, self.desk, "waited", name)
            self.assert_refused(NotReady, self.desk, "within", name)

    def test_is_ready(self):
        self.assert_refused(IsReady, self.desk, "wake", "a")
        for rank in (0, 5, 99):
            self.assert_refused(IsReady, self.desk, "rerank", "a", rank)

    def test_what_was_refused_leaves_no_trace_in_what_comes(self):
        calm = self.desk.twin()
        for deed, more in [("sleep", ("a", 0)), ("wait", ("a", "")),
                           ("wake", ("a",)), ("ring", ("",)),
                           ("rerank", ("b", 100)), ("sleep", ("b", 1)),
                           ("enter", ("a", 3)), ("enter", ("d", -1)),
                           ("run", (1001,)), ("foretold", (-1,)),
                           ("wait", ("c", "other"))]:
            self.assertRaises(DeskError, getattr(self.desk, deed), *more)
        for _ in range(20):
            self.assertEqual(self.desk.turn(), calm.turn())
            self.assertEqual(view(self.desk), view(calm))


class TestHandedOut(DeskCase):

    def test_lists_stay_as_they_were_told(self):
        desk = desk_with([("a", 5), ("b", 6), ("c", 6), ("d", 6)])
        desk.wait("c", "bell")
        desk.wait("d", "bell")
        names = desk.names()
        ready = desk.ready()
        foretold = desk.foretold(2)
        ran = desk.run(2)
        rung = desk.ring("bell")
        desk.leave("a")
        desk.leave("d")
        desk.sleep("b", 2)
        desk.enter("e", 9)
        desk.run(5)
        desk.ring("bell")
        self.assertEqual(names, ["a", "b", "c", "d"])
        self.assertEqual(ready, ["b", "a"])
        self.assertEqual(foretold, ["b", "b"])
        self.assertEqual(ran, ["b", "b"])
        self.assertEqual(rung, ["c", "d"])

    def test_each_list_is_a_new_one(self):
        desk = desk_with([("a", 5), ("b", 6)])
        for deed, more in [("names", ()), ("ready", ()), ("foretold", (3,)),
                           ("run", (3,)), ("ring", ("bell",))]:
            with self.subTest(deed=deed):
                one = getattr(desk, deed)(*more)
                other = getattr(desk, deed)(*more)
                self.assertIs(type(one), list)
                self.assertIsNot(one, other)

    def test_changing_a_list_does_not_change_the_desk(self):
        desk = desk_with([("a", 5), ("b", 6), ("c", 7)])
        desk.wait("c", "bell")
        for deed, more in [("names", ()), ("ready", ()), ("foretold", (3,)),
                           ("run", (3,)), ("ring", ("bell",))]:
            told = getattr(desk, deed)(*more)
            before = view(desk)
            with self.subTest(deed=deed):
                told.reverse()
                told.append("d")
                self.assertEqual(view(desk), before)
                del told[:]
                self.assertEqual(view(desk), before)
        self.assertEqual(sorted(desk.names()), ["a", "b", "c"])


if __name__ == "__main__":
    unittest.main()
