"""Points [4], [5] and [12]: who runs, the line behind it, the waits and the
time; what is foretold."""

import unittest

from helper import DeskCase, Model, deeds, desk_with, many_names, outcome, view
from rrdesk.desk import Desk
from rrdesk.errors import NoSpan


class TestTurn(DeskCase):

    def test_nobody_there(self):
        desk = Desk(10, 5)
        for now in range(1, 30):
            self.assertIsNone(desk.turn())
            self.assert_whole(desk.now, now)
            self.assertEqual(desk.names(), [])

    def test_nobody_ready(self):
        desk = desk_with([("a", 5), ("b", 6)])
        desk.sleep("a", 1000)
        desk.wait("b", "bell")
        for now in range(1, 30):
            self.assertIsNone(desk.turn())
            self.assert_whole(desk.now, now)
            self.assertEqual(desk.names(), ["a", "b"])

    def test_one_caller(self):
        for rank in (0, 50, 99):
            for pace in (1, 2, 1000):
                desk = desk_with([("a", rank)], pace, 1)
                for now in range(1, 30):
                    self.assertEqual(desk.turn(), "a")
                    self.assert_whole(desk.now, now)
                    self.assert_whole(desk.waited("a"), 0)
                    self.assertEqual(desk.names(), ["a"])

    def test_the_one_that_ran_goes_to_the_end_and_has_waited_nought(self):
        desk = desk_with([("a", 5), ("b", 7), ("c", 6)])
        self.assertEqual(desk.turn(), "b")
        self.assertEqual(desk.names(), ["a", "c", "b"])
        self.assert_whole(desk.waited("b"), 0)
        self.assert_whole(desk.waited("a"), 1)
        self.assert_whole(desk.waited("c"), 1)
        self.assert_whole(desk.now, 1)
        self.assertEqual(desk.state("b"), "ready")
        self.assert_whole(desk.rank("b"), 7)

    def test_it_goes_behind_those_asleep_and_waiting_too(self):
        desk = desk_with([("a", 5), ("b", 7), ("c", 6)])
        desk.sleep("b", 9)
        desk.wait("c", "bell")
        self.assertEqual(desk.names(), ["a", "b", "c"])
        self.assertEqual(desk.turn(), "a")
        self.assertEqual(desk.names(), ["b", "c", "a"])

    def test_of_equal_ones_the_nearest_to_the_beginning(self):
        for place in range(4):
            ranks = [5, 5, 5, 5]
            ranks[:place] = [4] * place
            desk = desk_with(zip("abcd", ranks))
            with self.subTest(place=place):
                self.assertEqual(desk.turn(), "abcd"[place])

    def test_a_lower_rank_that_has_waited_long_enough(self):
        # Pace 4: a caller of rank 3 that has waited 8 reaches 5.
        desk = desk_with([("low", 3), ("high", 5)], 4)
        self.assertEqual(desk.run(8), ["high"] * 8)
        self.assert_whole(desk.waited("low"), 8)
        self.assertEqual(desk.turn(), "low")
        self.assertEqual(desk.names(), ["high", "low"])
        self.assert_whole(desk.waited("high"), 1)
        self.assertEqual(desk.run(9), ["high"] * 8 + ["low"])

    def test_of_two_that_reach_the_same_the_nearer_one(self):
        # Pace 4: behind 8 turns both the middle one and the top reach 9.
        desk = desk_with([("low", 5), ("middle", 7), ("top", 9)], 4)
        self.assertEqual(desk.run(8), ["top"] * 8)
        self.assertEqual(desk.names(), ["low", "middle", "top"])
        self.assertEqual(desk.run(2), ["middle", "top"])

    def test_only_full_paces_count(self):
        for pace in (1, 2, 3, 10, 1000):
            desk = desk_with([("low", 98), ("high", 99)], pace)
            with self.subTest(pace=pace):
                self.assertEqual(desk.run(pace), ["high"] * pace)
                self.assertEqual(desk.turn(), "low")
                self.assertEqual(desk.turn(), "high")

    def test_the_one_that_ran_has_waited_since_the_turn_behind_that(self):
        desk = desk_with([("a", 5), ("b", 5), ("c", 5)])
        for now in range(1, 40):
            ran = desk.turn()
            waits = sorted(desk.waited(name) for name in "abc")
            self.assert_whole(desk.waited(ran), 0)
            self.assertEqual(waits, [0, min(1, now), min(2, now)])


class TestOrderAtOneTurn(DeskCase):

    def test_those_that_wake_come_ahead_of_the_one_that_ran(self):
        desk = desk_with([("a", 5), ("b", 5), ("c", 5), ("d", 5)])
        desk.sleep("c", 2)
        desk.sleep("a", 2)
        self.assertEqual(desk.names(), ["b", "d", "c", "a"])
        self.assertEqual(desk.turn(), "b")
        self.assertEqual(desk.names(), ["d", "c", "a", "b"])
        self.assertEqual(desk.turn(), "d")
        self.assertEqual(desk.names(), ["b", "c", "a", "d"])
        for name in "cad":
            self.assertEqual(desk.state(name), "ready")
            self.assert_whole(desk.waited(name), 0)
        self.assert_whole(desk.waited("b"), 1)
        self.assertEqual(desk.run(4), ["b", "c", "a", "d"])

    def test_who_fell_asleep_at_different_times_wakes_in_the_lines_order(self):
        desk = desk_with([("a", 5), ("b", 5), ("c", 5), ("d", 9)])
        desk.sleep("c", 3)
        desk.turn()
        desk.sleep("a", 2)
        desk.turn()
        desk.sleep("b", 1)
        self.assertEqual(desk.names(), ["c", "a", "d", "b"])
        self.assertEqual(desk.turn(), "d")
        self.assertEqual(desk.names(), ["c", "a", "b", "d"])
        self.assertEqual([desk.state(name) for name in "abcd"], ["ready"] * 4)

    def test_those_that_wake_go_behind_all_others(self):
        desk = desk_with([("a", 5), ("b", 5), ("c", 5), ("d", 5), ("e", 5)])
        desk.sleep("a", 1)
        desk.wait("b", "bell")
        desk.sleep("c", 2)
        desk.sleep("d", 1)
        self.assertEqual(desk.names(), ["e", "a", "b", "c", "d"])
        self.assertEqual(desk.turn(), "e")
        self.assertEqual(desk.names(), ["b", "c", "a", "d", "e"])

    def test_they_wake_where_nobody_runs(self):
        desk = desk_with([("a", 5), ("b", 6), ("c", 7)])
        desk.sleep("b", 2)
        desk.sleep("c", 3)
        desk.sleep("a", 2)
        self.assertEqual(desk.run(2), [None, None])
        self.assertEqual(desk.names(), ["c", "b", "a"])
        self.assertEqual(desk.ready(), ["b", "a"])
        self.assertEqual(desk.turn(), "b")
        self.assertEqual(desk.names(), ["a", "c", "b"])

    def test_who_wakes_at_a_turn_does_not_run_at_it(self):
        desk = desk_with([("low", 1), ("high", 99)])
        desk.sleep("high", 1)
        self.assertEqual(desk.turn(), "low")
        self.assertEqual(desk.turn(), "high")

    def test_who_runs_is_chosen_ahead_of_the_time_growing(self):
        # Behind the turn the low one would have reached the high one.
        desk = desk_with([("low", 4), ("high", 5)], 1)
        self.assertEqual(desk.run(3), ["high", "low", "high"])


class TestRun(DeskCase):

    def test_nobody_there(self):
        desk = Desk(1, 1)
        self.assertEqual(desk.run(1000), [None] * 1000)
        self.assert_whole(desk.now, 1000)

    def test_nought_turns(self):
        desk = desk_with([("a", 5), ("b", 6)])
        before = view(desk)
        self.assertEqual(desk.run(0), [])
        self.assertEqual(desk.foretold(0), [])
        self.assertEqual(view(desk), before)

    def test_bounds(self):
        for many in (0, 1, 2, 999, 1000):
            desk = desk_with([("a", 5)])
            self.assertEqual(desk.foretold(many), ["a"] * many)
            self.assertEqual(desk.run(many), ["a"] * many)
            self.assert_whole(desk.now, many)
        for many in (-1, -2, 1001, 1002):
            desk = desk_with([("a", 5)])
            self.assert_refused(NoSpan, desk, "run", many)
            self.assert_refused(NoSpan, desk, "foretold", many)

    def test_many_of_one_rank_round_and_round(self):
        for many in (1, 2, 3, 7, 59, 60):
            for rank, pace in ((0, 1), (50, 3), (99, 1000)):
                names = many_names(many)
                desk = desk_with([(name, rank) for name in names], pace)
                round_and_round = (names * 1000)[:1000]
                with self.subTest(many=many, rank=rank):
                    self.assertEqual(desk.foretold(1000), round_and_round)
                    self.assertEqual(desk.run(1000), round_and_round)
                    self.assert_whole(desk.now, 1000)
                    behind = 1000 % many
                    self.assertEqual(desk.names(),
                                     names[behind:] + names[:behind])
                    waits = [desk.waited(name) for name in desk.names()]
                    self.assertEqual(waits, list(range(many - 1, -1, -1)))

    def test_it_is_as_many_turns_one_by_one(self):
        callers = [("a", 5), ("b", 7), ("c", 7), ("d", 1)]
        one = desk_with(callers, 3)
        other = desk_with(callers, 3)
        for desk in (one, other):
            desk.sleep("b", 7)
            desk.wait("c", "bell")
        self.assertEqual(one.run(50), [other.turn() for _ in range(50)])
        self.assertEqual(view(one), view(other))

    def test_unlike_ranks_by_hand(self):
        # Pace 1, ranks 2 and 0: the low one runs when it has waited two.
        desk = desk_with([("h", 2), ("l", 0)], 1)
        self.assertEqual("".join(desk.run(9)), "hhlhhlhhl")
        # Pace 2 and 3: when it has waited for two full paces.
        desk = desk_with([("h", 2), ("l", 0)], 2)
        self.assertEqual("".join(desk.run(10)), "hhhhlhhhhl")
        desk = desk_with([("h", 2), ("l", 0)], 3)
        self.assertEqual("".join(desk.run(14)), "hhhhhhlhhhhhhl")
        desk = desk_with([("h", 2), ("l", 0)], 1000)
        self.assertEqual("".join(desk.run(1000) + desk.run(1000)), "h" * 2000)
        self.assertEqual("".join(desk.run(4)), "lhhh")

    def test_unlike_ranks_against_the_points(self):
        for pace in (1, 2, 3, 1000):
            for ranks in ((5, 3, 4, 3, 5), (99, 0, 50), (0, 1, 2, 3, 4, 5),
                          (9, 9, 0, 0, 9), (7, 2, 7, 2)):
                callers = list(zip("abcdef", ranks))
                desk = desk_with(callers, pace)
                model = Model(pace, 60)
                for name, rank in callers:
                    model.enter(name, rank)
                with self.subTest(pace=pace, ranks=ranks):
                    for _ in range(300):
                        self.assertEqual(desk.turn(), model.turn())
                        self.assertEqual(view(desk), model.view())


class TestForetold(DeskCase):

    def assert_foretold(self, desk, many):
        before = view(desk)
        told = desk.foretold(many)
        self.assertEqual(view(desk), before)
        self.assertEqual(desk.foretold(many), told)
        self.assertEqual(view(desk), before)
        self.assertEqual(desk.run(many), told)

    def test_nobody_there(self):
        desk = Desk(10, 5)
        self.assert_foretold(desk, 5)
        self.assert_foretold(desk, 0)
        self.assert_foretold(desk, 1000)

    def test_unlike_ranks(self):
        for pace in (1, 2, 3, 1000):
            desk = desk_with([("a", 5), ("b", 0), ("c", 7), ("d", 7)], pace)
            for many in (0, 1, 2, 10, 500, 1000):
                self.assert_foretold(desk, many)

    def test_callers_asleep_and_waiting(self):
        desk = desk_with([("a", 5), ("b", 5), ("c", 9), ("d", 5)], 2)
        desk.sleep("c", 3)
        desk.wait("d", "bell")
        desk.sleep("b", 1)
        self.assertEqual(desk.foretold(5), ["a", "b", "a", "c", "c"])
        self.assertEqual(desk.left("c"), 3)
        self.assertEqual(desk.left("b"), 1)
        self.assert_foretold(desk, 5)
        desk.sleep("a", 1000)
        desk.sleep("b", 999)
        desk.sleep("c", 500)
        self.assert_foretold(desk, 1000)

    def test_nobody_ready_for_a_while(self):
        desk = desk_with([("a", 5), ("b", 6)])
        desk.sleep("a", 3)
        desk.sleep("b", 5)
        self.assertEqual(desk.foretold(7),
                         [None, None, None, "a", "a", "b", "b"])
        self.assert_foretold(desk, 7)

    def test_deeds_between_change_what_comes(self):
        desk = desk_with([("a", 5), ("b", 6)])
        self.assertEqual(desk.foretold(3), ["b", "b", "b"])
        desk.sleep("b", 2)
        self.assertEqual(desk.foretold(3), ["a", "a", "b"])

    def test_amid_many_deeds(self):
        for seed in range(6):
            desk = Desk(3, 8)
            for at, (deed, told) in enumerate(deeds(seed, 400)):
                outcome(desk, deed, *told)
                if at % 10 == 0:
                    self.assert_foretold(desk.twin(), 60)
                    self.assert_foretold(desk, at % 7)


if __name__ == "__main__":
    unittest.main()
