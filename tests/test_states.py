"""Points [4], [6], [7] and [8]: who sleeps, waits and wakes, ranks that are
changed, and the order in which the ready ones would be chosen."""

import unittest

from helper import DeskCase, desk_with, view
from rrdesk.desk import Desk
from rrdesk.errors import IsReady, NoName, NoSpan, NotReady


class TestSleep(DeskCase):

    def test_it_goes_to_the_end_of_the_line(self):
        desk = desk_with([("a", 1), ("b", 2), ("c", 3)])
        self.assertIsNone(desk.sleep("a", 4))
        self.assertEqual(desk.names(), ["b", "c", "a"])
        self.assertEqual(desk.state("a"), "asleep")
        self.assert_whole(desk.rank("a"), 1)
        self.assert_whole(desk.left("a"), 4)
        self.assertIsNone(desk.bell("a"))
        self.assertEqual(desk.ready(), ["c", "b"])
        self.assert_whole(desk.now, 0)
        desk.sleep("c", 9)
        self.assertEqual(desk.names(), ["b", "a", "c"])

    def test_for_so_many_turns_it_does_not_run(self):
        for many in (1, 2, 3, 10, 999, 1000):
            desk = desk_with([("a", 99), ("b", 0)], 1000)
            desk.run(7)
            desk.sleep("a", many)
            with self.subTest(many=many):
                for left in range(many, 0, -1):
                    self.assertEqual(desk.state("a"), "asleep")
                    self.assert_whole(desk.left("a"), left)
                    self.assertEqual(desk.turn(), "b")
                self.assertEqual(desk.state("a"), "ready")
                self.assertIsNone(desk.left("a"))
                self.assert_whole(desk.waited("a"), 0)
                self.assertEqual(desk.turn(), "a")

    def test_spans_out_of_bounds(self):
        for many in (0, -1, -1000, 1001, 1002, 10 ** 12):
            desk = desk_with([("a", 5), ("b", 6)])
            with self.subTest(many=many):
                self.assert_refused(NoSpan, desk, "sleep", "a", many)

    def test_asleep_or_waiting_it_is_not_ready(self):
        desk = desk_with([("a", 5), ("b", 6), ("c", 6)])
        desk.sleep("a", 5)
        desk.wait("b", "bell")
        for name in ("a", "b"):
            for many in (1, 5, 1000):
                self.assert_refused(NotReady, desk, "sleep", name, many)
            for many in (0, 1001, -1):
                self.assert_refused(NoSpan, desk, "sleep", name, many)

    def test_its_wait_is_forgotten(self):
        desk = desk_with([("a", 0), ("b", 9)], 10)
        desk.run(50)
        self.assert_whole(desk.waited("a"), 50)
        desk.sleep("a", 3)
        desk.run(3)
        self.assert_whole(desk.waited("a"), 0)
        desk.run(2)
        self.assert_whole(desk.waited("a"), 2)

    def test_it_sleeps_again_when_it_has_woken(self):
        desk = desk_with([("a", 5), ("b", 6)])
        for many in (1, 3, 2):
            desk.sleep("b", many)
            self.assertEqual(desk.run(many + 1), ["a"] * many + ["b"])

    def test_a_late_time(self):
        desk = desk_with([("a", 5)])
        for _ in range(5):
            desk.run(999)
        desk.sleep("a", 1000)
        self.assertEqual(desk.run(1000), [None] * 1000)
        self.assertEqual(desk.turn(), "a")


class TestWaitAndRing(DeskCase):

    def test_it_goes_to_the_end_and_waits_until_the_bell_rings(self):
        desk = desk_with([("a", 9), ("b", 2), ("c", 3)])
        self.assertIsNone(desk.wait("a", "bell"))
        self.assertEqual(desk.names(), ["b", "c", "a"])
        self.assertEqual(desk.state("a"), "waiting")
        self.assertEqual(desk.bell("a"), "bell")
        self.assertIsNone(desk.left("a"))
        self.assert_whole(desk.rank("a"), 9)
        self.assertEqual(desk.ready(), ["c", "b"])
        self.assertNotIn("a", desk.run(1000))
        self.assertEqual(desk.state("a"), "waiting")
        now = desk.now
        self.assertEqual(desk.ring("bell"), ["a"])
        self.assert_whole(desk.now, now)
        self.assertEqual(desk.state("a"), "ready")
        self.assertIsNone(desk.bell("a"))
        self.assert_whole(desk.waited("a"), 0)
        self.assertEqual(desk.names()[-1], "a")

    def test_several_bells_each_in_the_order_of_the_line(self):
        desk = desk_with([("a", 1), ("b", 1), ("c", 1), ("d", 1), ("e", 1),
                          ("f", 1)])
        for name, bell in (("d", "x"), ("b", "y"), ("a", "x"), ("e", "y"),
                           ("c", "x")):
            desk.wait(name, bell)
        self.assertEqual(desk.names(), ["f", "d", "b", "a", "e", "c"])
        desk.turn()
        self.assertEqual(desk.names(), ["d", "b", "a", "e", "c", "f"])
        self.assertEqual(desk.ring("x"), ["d", "a", "c"])
        self.assertEqual(desk.names(), ["b", "e", "f", "d", "a", "c"])
        self.assertEqual(desk.bell("b"), "y")
        self.assertEqual(desk.state("e"), "waiting")
        self.assertEqual(desk.ring("x"), [])
        self.assertEqual(desk.ring("y"), ["b", "e"])
        self.assertEqual(desk.names(), ["f", "d", "a", "c", "b", "e"])
        self.assertEqual(desk.run(6), ["f", "d", "a", "c", "b", "e"])

    def test_a_bell_that_nobody_waits_for_is_forgotten(self):
        desk = desk_with([("a", 5), ("b", 6)])
        desk.sleep("b", 4)
        before = view(desk)
        self.assertEqual(desk.ring("bell"), [])
        self.assertEqual(view(desk), before)
        desk.wait("a", "bell")
        self.assertEqual(desk.state("a"), "waiting")
        self.assertEqual(desk.run(3), [None] * 3)
        self.assertEqual(desk.ring("other"), [])
        self.assertEqual(desk.ring("bel"), [])
        self.assertEqual(desk.ring("bell0"), [])
        self.assertEqual(desk.state("a"), "waiting")
        self.assertEqual(Desk(1, 1).ring("bell"), [])

    def test_a_bell_that_has_the_name_of_a_caller(self):
        desk = desk_with([("a", 5), ("b", 6), ("c", 7)])
        desk.wait("a", "b")
        desk.wait("c", "c")
        self.assertEqual(desk.bell("a"), "b")
        self.assertEqual(desk.bell("c"), "c")
        self.assertEqual(desk.ring("a"), [])
        self.assertEqual(desk.state("a"), "waiting")
        self.assertEqual(desk.ring("b"), ["a"])
        self.assertEqual(desk.ring("c"), ["c"])
        self.assertEqual(desk.names(), ["b", "a", "c"])

    def test_a_bell_does_not_wake_who_sleeps(self):
        desk = desk_with([("a", 5), ("bell", 5)])
        desk.wait("a", "bell")
        desk.wake("a")
        desk.sleep("a", 5)
        desk.sleep("bell", 4)
        self.assertEqual(desk.ring("bell"), [])
        self.assertEqual(desk.ring("a"), [])
        self.assert_whole(desk.left("a"), 5)
        self.assert_whole(desk.left("bell"), 4)

    def test_bells_of_all_lengths(self):
        desk = desk_with([("a", 5)])
        for bell in ("x", "0", "abcdefghijkl", "ready", "asleep", "waiting"):
            desk.wait("a", bell)
            self.assertEqual(desk.bell("a"), bell)
            self.assertEqual(desk.ring(bell), ["a"])
        for bell in ("abcdefghijklm", "", "Bell"):
            self.assert_refused(NoName, desk, "ring", bell)
            self.assert_refused(NoName, desk, "wait", "a", bell)

    def test_asleep_or_waiting_it_is_not_ready(self):
        desk = desk_with([("a", 5), ("b", 6), ("c", 6)])
        desk.sleep("a", 5)
        desk.wait("b", "bell")
        for name in ("a", "b"):
            for bell in ("bell", "other"):
                self.assert_refused(NotReady, desk, "wait", name, bell)

    def test_who_left_does_not_hear_it(self):
        desk = desk_with([("a", 5), ("b", 6)])
        desk.wait("a", "bell")
        desk.wait("b", "bell")
        desk.leave("a")
        self.assertEqual(desk.ring("bell"), ["b"])

    def test_those_it_woke_have_waited_since_it_rang(self):
        desk = desk_with([("a", 1), ("b", 1), ("c", 9)])
        desk.wait("a", "bell")
        desk.wait("b", "bell")
        desk.run(12)
        desk.ring("bell")
        desk.run(3)
        self.assert_whole(desk.waited("a"), 3)
        self.assert_whole(desk.waited("b"), 3)


class TestWake(DeskCase):

    def test_it_is_ready_at_once_at_the_end_of_the_line(self):
        desk = desk_with([("a", 1), ("b", 2), ("c", 3)])
        desk.sleep("a", 9)
        desk.wait("b", "bell")
        desk.run(4)
        self.assertEqual(desk.names(), ["a", "b", "c"])
        self.assertIsNone(desk.wake("a"))
        self.assertEqual(desk.names(), ["b", "c", "a"])
        self.assertIsNone(desk.wake("b"))
        self.assertEqual(desk.names(), ["c", "a", "b"])
        for name in ("a", "b"):
            self.assertEqual(desk.state(name), "ready")
            self.assert_whole(desk.waited(name), 0)
            self.assertIsNone(desk.left(name))
            self.assertIsNone(desk.bell(name))
        self.assert_whole(desk.now, 4)

    def test_its_old_time_to_wake_comes_and_nothing_happens(self):
        desk = desk_with([("a", 5), ("b", 5), ("c", 5)])
        desk.sleep("a", 3)
        desk.turn()
        desk.wake("a")
        self.assertEqual(desk.names(), ["c", "b", "a"])
        self.assertEqual(desk.turn(), "c")
        self.assertEqual(desk.turn(), "b")
        # Here its old time has come: it keeps its wait and its place.
        self.assert_whole(desk.now, 3)
        self.assertEqual(desk.names(), ["a", "c", "b"])
        self.assert_whole(desk.waited("a"), 2)
        self.assertEqual(desk.run(3), ["a", "c", "b"])

    def test_its_old_time_comes_while_it_waits_or_sleeps_anew(self):
        desk = desk_with([("a", 5), ("b", 5)])
        desk.sleep("a", 2)
        desk.wake("a")
        desk.wait("a", "bell")
        self.assertEqual(desk.run(4), ["b"] * 4)
        self.assertEqual(desk.state("a"), "waiting")
        desk.wake("a")
        desk.sleep("a", 2)
        desk.wake("a")
        desk.sleep("a", 5)
        self.assertEqual(desk.run(7), ["b"] * 5 + ["a", "b"])

    def test_its_old_bell_rings_and_nothing_happens(self):
        desk = desk_with([("a", 5), ("b", 5)])
        desk.wait("a", "bell")
        desk.wake("a")
        desk.turn()
        before = view(desk)
        self.assertEqual(desk.ring("bell"), [])
        self.assertEqual(view(desk), before)
        desk.sleep("a", 5)
        self.assertEqual(desk.ring("bell"), [])
        self.assertEqual(desk.state("a"), "asleep")

    def test_the_others_stay_asleep_and_waiting(self):
        desk = desk_with([("a", 5), ("b", 5), ("c", 5), ("d", 5)])
        desk.sleep("a", 3)
        desk.sleep("b", 3)
        desk.wait("c", "bell")
        desk.wait("d", "bell")
        desk.wake("a")
        desk.wake("c")
        self.assertEqual(desk.names(), ["b", "d", "a", "c"])
        self.assert_whole(desk.left("b"), 3)
        self.assertEqual(desk.bell("d"), "bell")

    def test_who_is_ready_is_refused(self):
        desk = desk_with([("a", 5), ("b", 5)])
        self.assert_refused(IsReady, desk, "wake", "a")
        desk.sleep("a", 1)
        desk.turn()
        self.assert_refused(IsReady, desk, "wake", "a")
        desk.wait("a", "bell")
        desk.ring("bell")
        self.assert_refused(IsReady, desk, "wake", "a")


class TestRerank(DeskCase):

    def test_while_asleep_and_while_waiting_the_place_is_kept(self):
        desk = desk_with([("a", 5), ("b", 5), ("c", 5), ("d", 5)])
        desk.sleep("a", 3)
        desk.wait("b", "bell")
        desk.sleep("c", 9)
        self.assertEqual(desk.names(), ["d", "a", "b", "c"])
        for name, rank in (("a", 0), ("b", 99), ("c", 5), ("a", 98)):
            self.assertIsNone(desk.rerank(name, rank))
            self.assert_whole(desk.rank(name), rank)
            self.assertEqual(desk.names(), ["d", "a", "b", "c"])
        self.assertEqual(desk.state("a"), "asleep")
        self.assert_whole(desk.left("a"), 3)
        self.assertEqual(desk.bell("b"), "bell")
        self.assert_whole(desk.now, 0)

    def test_the_new_rank_counts(self):
        desk = desk_with([("a", 5), ("b", 6)])
        desk.sleep("a", 2)
        desk.rerank("a", 7)
        self.assertEqual(desk.run(4), ["b", "b", "a", "a"])
        desk.wait("a", "bell")
        desk.rerank("a", 1)
        desk.ring("bell")
        self.assertEqual(desk.run(2), ["b", "b"])
        self.assert_whole(desk.within("a"), 10 * 98 + 60 - 2)

    def test_who_is_ready_is_refused(self):
        desk = desk_with([("a", 5), ("b", 6)])
        for rank in (0, 5, 6, 99):
            self.assert_refused(IsReady, desk, "rerank", "a", rank)
        desk.sleep("a", 1)
        desk.turn()
        self.assert_refused(IsReady, desk, "rerank", "a", 7)


class TestReady(DeskCase):

    def test_nobody(self):
        self.assertEqual(Desk(1, 1).ready(), [])
        desk = desk_with([("a", 5), ("b", 5)])
        desk.sleep("a", 1)
        desk.wait("b", "bell")
        self.assertEqual(desk.ready(), [])

    def test_by_rank_and_of_equal_ones_in_the_order_of_the_line(self):
        desk = desk_with([("a", 5), ("b", 7), ("c", 5), ("d", 9), ("e", 7),
                          ("f", 5)])
        self.assertEqual(desk.ready(), ["d", "b", "e", "a", "c", "f"])
        self.assertEqual(desk.names(), ["a", "b", "c", "d", "e", "f"])

    def test_just_below_and_at_a_full_pace(self):
        for pace in (2, 3, 10, 1000):
            desk = desk_with([("top", 99), ("low", 4)], pace)
            for _ in range(pace - 1):
                desk.turn()
            desk.enter("same", 4)
            desk.enter("high", 5)
            with self.subTest(pace=pace):
                # A wait of one turn less than the pace counts nothing yet.
                self.assertEqual(desk.waited("low"), pace - 1)
                self.assertEqual(desk.ready(), ["top", "high", "low", "same"])
                desk.turn()
                self.assertEqual(desk.waited("low"), pace)
                self.assertEqual(desk.ready(), ["top", "low", "high", "same"])

    def test_a_higher_rank_ahead_of_one_that_has_waited_no_longer(self):
        desk = desk_with([("top", 99), ("high", 5), ("low", 4)], 3)
        desk.sleep("high", 2)
        desk.run(2)
        desk.sleep("low", 1)
        desk.run(1)
        self.assertEqual(desk.names(), ["high", "low", "top"])
        self.assertEqual([desk.waited("high"), desk.waited("low")], [1, 0])
        for _ in range(12):
            self.assertEqual(desk.ready(), ["top", "high", "low"])
            desk.turn()

    def test_the_one_that_runs_is_the_first_of_it(self):
        desk = desk_with([("a", 5), ("b", 3), ("c", 4), ("d", 5), ("e", 0)], 2)
        for _ in range(200):
            ready = desk.ready()
            self.assertEqual(sorted(ready), ["a", "b", "c", "d", "e"])
            self.assertEqual(desk.turn(), ready[0])


if __name__ == "__main__":
    unittest.main()
