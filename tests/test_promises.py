"""Points [10] and [11], and all the points together over long runs."""

import unittest

from helper import DeskCase, Model, deeds, desk_with, many_names, outcome, view
from rrdesk.desk import Desk
from rrdesk.errors import NotReady, Unknown

# Seeds, paces, rooms and ranks of the long runs: few ranks make many equal
# ones, a small pace lets low ranks reach the high ones.
RUNS = [(1, 1, 1, range(100)), (2, 1, 5, (0, 3, 99)), (3, 1, 12, range(100)),
        (4, 2, 4, (0, 5, 9)), (5, 3, 12, (90, 95, 99)), (6, 7, 6, (97, 98, 99)),
        (7, 1000, 8, range(100)), (8, 2, 60, (7,)), (9, 5, 2, (0, 1, 2)),
        (10, 1, 9, (99, 98, 60))]


class TestWithin(DeskCase):

    def test_of_a_new_caller(self):
        for pace in (1, 2, 1000):
            for room in (1, 2, 60):
                for rank in (0, 1, 50, 98, 99):
                    desk = desk_with([("a", rank)], pace, room)
                    self.assert_whole(desk.within("a"),
                                      pace * (99 - rank) + room)

    def test_of_one_that_has_waited(self):
        desk = desk_with([("low", 90), ("top", 99)], 10, 5)
        for waited in range(89):
            self.assert_whole(desk.waited("low"), waited)
            self.assert_whole(desk.within("low"), 95 - waited)
            self.assert_whole(desk.within("top"), 5)
            desk.turn()

    def test_it_begins_anew_for_who_ran_or_woke(self):
        desk = desk_with([("a", 98), ("b", 98), ("c", 98)], 10, 3)
        self.assertEqual(desk.run(2), ["a", "b"])
        self.assert_whole(desk.within("a"), 12)
        self.assert_whole(desk.within("b"), 13)
        self.assert_whole(desk.within("c"), 11)
        desk.sleep("c", 4)
        desk.run(4)
        self.assert_whole(desk.within("c"), 13)
        desk.wait("c", "bell")
        desk.rerank("c", 99)
        desk.run(4)
        desk.ring("bell")
        self.assert_whole(desk.within("c"), 3)

    def test_refusals(self):
        desk = desk_with([("a", 5), ("b", 6)])
        desk.sleep("a", 4)
        desk.wait("b", "bell")
        for deed in ("within", "waited"):
            self.assert_refused(NotReady, desk, deed, "a")
            self.assert_refused(NotReady, desk, deed, "b")
            self.assert_refused(Unknown, desk, deed, "c")

    def test_the_last_of_a_full_room_runs_at_the_last_turn_of_it(self):
        for room in (1, 2, 7, 60):
            names = many_names(room)
            desk = desk_with([(name, 99) for name in names], 1000, room)
            last = names[-1]
            with self.subTest(room=room):
                for within in range(room, 0, -1):
                    self.assert_whole(desk.within(last), within)
                    ran = desk.turn()
                    self.assertEqual(ran == last, within == 1)

    def test_the_lowest_rank_among_the_highest(self):
        for pace in (1, 2, 3):
            for room in (2, 3, 20):
                names = many_names(room - 1)
                desk = desk_with([(name, 99) for name in names], pace, room)
                desk.enter("low", 0)
                within = desk.within("low")
                self.assertEqual(within, pace * 99 + room)
                self.assertIn("low", desk.foretold(within))

    def test_whoever_enters_and_leaves_meanwhile(self):
        # Ahead of each turn a new one of the highest rank takes the place of
        # another one.
        for pace, rank in ((1, 0), (3, 90), (1000, 98)):
            desk = desk_with([("low", rank), ("x", 99), ("y", 99)], pace, 3)
            ran = []
            for at in range(desk.within("low")):
                others = [name for name in desk.names() if name != "low"]
                desk.leave(others[at % 2])
                desk.enter(f"new{at}", 99)
                ran.append(desk.turn())
            with self.subTest(pace=pace, rank=rank):
                self.assertIn("low", ran)
                self.assertNotEqual(ran[0], "low")


class TestLongRuns(DeskCase):

    def walk(self, watch_of):
        """Do all deeds of all runs, each under a new watch; the watches."""
        watches = []
        for seed, pace, room, ranks in RUNS:
            desk = Desk(pace, room)
            watch = watch_of(self, desk)
            with self.subTest(seed=seed):
                for deed, told in deeds(seed, 3000, min(room + 2, 14), ranks):
                    watch.ahead()
                    watch.behind(deed, told, outcome(desk, deed, *told))
            watches.append(watch)
        return watches

    def test_each_ready_caller_runs_within_what_was_told(self):
        for watch in self.walk(WithinWatch):
            self.assertGreater(watch.ran, 300)

    def test_nobody_runs_twice_ahead_of_another(self):
        watches = self.walk(TwiceWatch)
        # Higher ranks did run twice ahead of lower ones, and often.
        self.assertGreater(sum(watch.twice for watch in watches), 1000)

    def test_every_deed_does_what_the_points_say(self):
        for seed, pace, room, ranks in RUNS:
            desk = Desk(pace, room)
            model = Model(pace, room)
            with self.subTest(seed=seed):
                for deed, told in deeds(seed, 2000, min(room + 2, 14), ranks):
                    self.assertEqual(outcome(desk, deed, *told),
                                     outcome(model, deed, *told))
                    self.assertEqual(view(desk), model.view())


class WithinWatch:
    """For each ready caller the time by which it has to have run."""

    def __init__(self, case, desk):
        self.case = case
        self.desk = desk
        self.due = {}
        self.ran = 0

    def ahead(self):
        pass

    def behind(self, deed, told, answer):
        if deed == "turn" and answer is not None:
            self.ran += 1
            del self.due[answer]
        ready = self.desk.ready()
        for name in list(self.due):
            if name not in ready:
                del self.due[name]
        for name in ready:
            within = self.desk.within(name)
            self.case.assertGreaterEqual(within, 1)
            # What was told at first is told for as long as it is ready.
            due = self.due.setdefault(name, self.desk.now + within)
            self.case.assertEqual(self.desk.now + within, due)
            self.case.assertLess(self.desk.now, due)


class TwiceWatch:
    """For each caller that ran, who was ready then and has not run since."""

    def __init__(self, case, desk):
        self.case = case
        self.desk = desk
        self.passed = {}
        self.ready = []
        self.twice = 0

    def ahead(self):
        self.ready = self.desk.ready()

    def behind(self, deed, told, answer):
        ran = answer if deed == "turn" else None
        for other in self.passed.get(ran, []):
            self.twice += 1
            self.case.assertLess(self.desk.rank(other), self.desk.rank(ran))
        # A name that left is another caller's when it enters again.
        if deed == "leave" and answer is None:
            self.passed.pop(told[0], None)
        gone = {ran} | set(self.ready) - set(self.desk.ready())
        for name in self.passed:
            self.passed[name] -= gone
        if ran is not None:
            self.passed[ran] = set(self.ready) - {ran}


class TestTwice(DeskCase):
    """Point [11], by hand."""

    def test_equal_ranks_take_turns_whatever_enters(self):
        desk = desk_with([("a", 5), ("b", 5)], 10)
        self.assertEqual(desk.turn(), "a")
        desk.enter("c", 5)
        self.assertEqual(desk.run(4), ["b", "a", "c", "b"])

    def test_sleeping_does_not_bring_a_caller_ahead(self):
        desk = desk_with([("a", 5), ("b", 5), ("c", 5)], 10)
        self.assertEqual(desk.turn(), "a")
        desk.sleep("a", 1)
        self.assertEqual(desk.turn(), "b")
        desk.wait("b", "bell")
        desk.ring("bell")
        self.assertEqual(desk.turn(), "c")

    def test_a_lower_one_runs_once_ahead_of_a_higher_one_at_most(self):
        desk = desk_with([("low", 98), ("high", 99)], 3)
        told = "".join(name[0] for name in desk.run(400))
        self.assertIn("l", told)
        self.assertNotIn("ll", told)


if __name__ == "__main__":
    unittest.main()
