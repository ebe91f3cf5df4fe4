"""Point [1] and the interface's `twin`: another desk that is alike."""

import unittest

from helper import DeskCase, deeds, desk_with, outcome, view
from rrdesk.desk import Desk
from rrdesk.notes import read

# One deed of each kind that changes a desk, for the desk made below.
CHANGES = [("enter", ("e", 9)), ("leave", ("a",)), ("leave", ("b",)),
           ("leave", ("c",)), ("sleep", ("a", 3)), ("wait", ("a", "bell")),
           ("wake", ("b",)), ("wake", ("c",)), ("ring", ("bell",)),
           ("rerank", ("b", 99)), ("rerank", ("c", 99)), ("turn", ()),
           ("run", (40,))]


def mixed_desk():
    """A desk with callers of all three states, some turns old."""
    desk = desk_with([("a", 5), ("b", 6), ("c", 7), ("d", 5)], 3, 7)
    desk.sleep("b", 9)
    desk.wait("c", "bell")
    desk.run(5)
    return desk


class TestTwin(DeskCase):

    def test_a_new_desk(self):
        for pace, room in ((1, 1), (1000, 60), (3, 7)):
            desk = Desk(pace, room)
            twin = desk.twin()
            self.assertIs(type(twin), Desk)
            self.assertIsNot(twin, desk)
            self.assertEqual(view(twin), view(desk))
            twin.enter("a", 5)
            twin.turn()
            self.assertEqual(view(desk), view(Desk(pace, room)))

    def test_it_has_the_same_line_states_waits_and_time(self):
        desk = mixed_desk()
        twin = desk.twin()
        self.assertEqual(view(twin), view(desk))
        self.assertEqual(twin.names(), ["b", "c", "d", "a"])
        self.assertEqual([twin.state(name) for name in "abcd"],
                         ["ready", "asleep", "waiting", "ready"])
        self.assert_whole(twin.now, 5)
        self.assert_whole(twin.waited("a"), 0)
        self.assert_whole(twin.waited("d"), 1)
        self.assert_whole(twin.left("b"), 4)
        self.assertEqual(twin.bell("c"), "bell")
        self.assertEqual(twin.foretold(100), desk.foretold(100))

    def test_a_deed_of_the_one_does_not_change_the_other(self):
        for deed, told in CHANGES:
            desk = mixed_desk()
            twin = desk.twin()
            before = view(desk)
            with self.subTest(deed=deed, told=told):
                getattr(twin, deed)(*told)
                self.assertNotEqual(view(twin), before)
                self.assertEqual(view(desk), before)
                again = desk.twin()
                self.assertEqual(view(again), before)
                changed = view(twin)
                getattr(desk, deed)(*told)
                self.assertEqual(view(desk), changed)
                self.assertEqual(view(twin), changed)
                self.assertEqual(view(again), before)

    def test_several_twins_and_a_twin_of_a_twin(self):
        desk = mixed_desk()
        before = view(desk)
        twins = [desk.twin() for _ in range(3)]
        twins.append(twins[0].twin())
        twins[0].leave("a")
        twins[1].run(7)
        twins[3].ring("bell")
        self.assertEqual(view(desk), before)
        self.assertEqual(view(twins[2]), before)
        self.assertEqual(twins[0].names(), ["b", "c", "d"])
        self.assertEqual(twins[1].now, 12)
        self.assertEqual(twins[3].state("c"), "ready")
        self.assertEqual(twins[1].state("c"), "waiting")

    def test_both_go_on_alike(self):
        for seed in range(5):
            desk = Desk(2, 7)
            for deed, told in deeds(seed, 300):
                outcome(desk, deed, *told)
            twin = desk.twin()
            for deed, told in deeds(seed + 50, 300):
                self.assertEqual(outcome(desk, deed, *told),
                                 outcome(twin, deed, *told))
                self.assertEqual(view(desk), view(twin))

    def test_both_go_on_in_different_ways(self):
        for seed in range(5):
            desk = Desk(2, 7)
            for deed, told in deeds(seed, 200):
                outcome(desk, deed, *told)
            twin = desk.twin()
            alone = desk.twin()
            for one, other in zip(deeds(seed + 50, 300), deeds(seed + 90, 300)):
                outcome(desk, one[0], *one[1])
                outcome(twin, other[0], *other[1])
                outcome(alone, one[0], *one[1])
            self.assertEqual(view(desk), view(alone))

    def test_a_time_of_more_than_twelve_figures(self):
        desk = read("desk 3 7 999999999998\na 5 ready 999999999998\n"
                    "b 6 asleep 3\nc 7 waiting bell\nd 99 asleep 1\n")
        desk.run(2)
        twin = desk.twin()
        self.assert_whole(twin.now, 10 ** 12)
        self.assertEqual(view(twin), view(desk))
        self.assertEqual(twin.run(4), desk.run(4))


if __name__ == "__main__":
    unittest.main()
