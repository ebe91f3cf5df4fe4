"""Points [4], [5] (first sentence) and [10], and the interface's section
rrdesk/ranks.py."""

import inspect
import itertools
import unittest

from rrdesk import ranks
from rrdesk.ranks import TOP, aged, first, limit

LONGEST = 999999999999


class WholeNumbers(unittest.TestCase):

    def assert_whole(self, told, meant):
        # True and 1.0 equal 1, but neither is a whole number here.
        self.assertIs(type(told), int)
        self.assertEqual(told, meant)


class TestInterface(WholeNumbers):

    def test_top(self):
        self.assert_whole(TOP, 99)

    def test_each_function_is_defined_in_its_file_with_its_arguments(self):
        listed = {"aged": ["rank", "waited", "pace"],
                  "limit": ["rank", "pace", "room"],
                  "first": ["rows", "pace"]}
        for name, arguments in listed.items():
            with self.subTest(name=name):
                made = getattr(ranks, name)
                self.assertEqual(made.__module__, "rrdesk.ranks")
                self.assertEqual(list(inspect.signature(made).parameters),
                                 arguments)


class TestAged(WholeNumbers):

    def test_a_wait_of_nought_leaves_the_rank(self):
        for rank in (0, 1, 50, 98, 99):
            for pace in (1, 2, 10, 1000):
                with self.subTest(rank=rank, pace=pace):
                    self.assert_whole(aged(rank, 0, pace), rank)

    def test_waits_about_one_pace(self):
        for rank in (0, 7, 99):
            for pace in (2, 3, 10, 999, 1000):
                with self.subTest(rank=rank, pace=pace):
                    self.assert_whole(aged(rank, pace - 1, pace), rank)
                    self.assert_whole(aged(rank, pace, pace), rank + 1)
                    self.assert_whole(aged(rank, pace + 1, pace), rank + 1)

    def test_waits_of_several_paces(self):
        self.assert_whole(aged(5, 29, 10), 7)
        self.assert_whole(aged(5, 30, 10), 8)
        self.assert_whole(aged(5, 31, 10), 8)
        self.assert_whole(aged(0, 98999, 1000), 98)
        self.assert_whole(aged(0, 99000, 1000), 99)

    def test_pace_of_one_adds_one_for_each_turn(self):
        for waited in (0, 1, 2, 3, 99, 100, 1000):
            with self.subTest(waited=waited):
                self.assert_whole(aged(0, waited, 1), waited)
                self.assert_whole(aged(99, waited, 1), 99 + waited)

    def test_the_rank_grows_beyond_the_top(self):
        self.assert_whole(aged(99, 10, 10), 100)
        self.assert_whole(aged(99, 999, 1000), 99)
        self.assert_whole(aged(99, 1000, 1000), 100)
        self.assert_whole(aged(0, 1000, 10), 100)

    def test_waits_of_twelve_figures(self):
        self.assert_whole(aged(0, LONGEST, 1), 999999999999)
        self.assert_whole(aged(99, LONGEST, 1), 1000000000098)
        self.assert_whole(aged(0, LONGEST, 1000), 999999999)
        self.assert_whole(aged(99, LONGEST, 1000), 1000000098)
        self.assert_whole(aged(1, LONGEST, 7), 142857142858)
        self.assert_whole(aged(1, 100000000000, 3), 33333333334)

    def test_each_turn_of_a_wait_counts_as_the_point_says(self):
        for pace in (1, 2, 3, 7):
            meant = 40
            for waited in range(50):
                if waited > 0 and waited % pace == 0:
                    meant = meant + 1
                with self.subTest(pace=pace, waited=waited):
                    self.assert_whole(aged(40, waited, pace), meant)

    def test_numbers_somewhat_out_of_bounds_raise_no_error(self):
        self.assert_whole(aged(100, 10, 10), 101)
        self.assert_whole(aged(-1, 10, 10), 0)
        self.assert_whole(aged(5, 2002, 1001), 7)
        self.assert_whole(aged(5, LONGEST + 1, 1000), 1000000005)
        self.assert_whole(aged(5, 30, 0), 5)


class TestLimit(WholeNumbers):

    def test_rank_nought(self):
        self.assert_whole(limit(0, 1, 1), 100)
        self.assert_whole(limit(0, 1, 60), 159)
        self.assert_whole(limit(0, 1000, 1), 99001)
        self.assert_whole(limit(0, 1000, 60), 99060)

    def test_the_top_rank_waits_for_the_room_alone(self):
        for pace in (1, 10, 1000):
            for room in (1, 2, 59, 60):
                with self.subTest(pace=pace, room=room):
                    self.assert_whole(limit(99, pace, room), room)

    def test_ranks_between(self):
        self.assert_whole(limit(98, 1, 1), 2)
        self.assert_whole(limit(98, 1000, 60), 1060)
        self.assert_whole(limit(1, 1, 60), 158)
        self.assert_whole(limit(50, 10, 5), 495)
        self.assert_whole(limit(50, 1000, 1), 49001)

    def test_it_is_one_at_least_within_the_bounds(self):
        for rank in range(100):
            for pace in (1, 1000):
                with self.subTest(rank=rank, pace=pace):
                    self.assertGreaterEqual(limit(rank, pace, 1), 1)

    def test_numbers_somewhat_out_of_bounds_raise_no_error(self):
        self.assert_whole(limit(100, 10, 5), -5)
        self.assert_whole(limit(-1, 10, 5), 1005)
        self.assert_whole(limit(50, 0, 5), 5)
        self.assert_whole(limit(50, 10, 0), 490)


def nearest_of_the_greatest(rows, pace):
    """The place as point [5] tells it, in two steps: who, and the nearest."""
    reached = [rank + waited // pace for rank, waited in rows]
    if not reached:
        return None
    return reached.index(max(reached))


class TestFirst(WholeNumbers):

    def test_no_pairs(self):
        for pace in (1, 10, 1000):
            self.assertIsNone(first([], pace))

    def test_one_pair(self):
        for row in ((0, 0), (0, 5), (99, 0), (50, LONGEST)):
            for pace in (1, 1000):
                with self.subTest(row=row, pace=pace):
                    self.assert_whole(first([row], pace), 0)

    def test_the_greatest_rank_at_each_place(self):
        for many in (2, 3, 60):
            for place in range(many):
                rows = [(30, 0)] * many
                rows[place] = (31, 0)
                with self.subTest(many=many, place=place):
                    self.assert_whole(first(rows, 10), place)

    def test_a_lower_rank_that_has_waited_long_enough(self):
        # Behind the higher one it has to be greater: 6 against 5.
        self.assert_whole(first([(5, 0), (3, 30)], 10), 1)
        self.assert_whole(first([(5, 0), (3, 29)], 10), 0)
        # Ahead of it an equal one is enough: 5 against 5.
        self.assert_whole(first([(3, 20), (5, 0)], 10), 0)
        self.assert_whole(first([(3, 19), (5, 0)], 10), 1)

    def test_the_lowest_rank_against_the_top(self):
        self.assert_whole(first([(0, 99000), (99, 0)], 1000), 0)
        self.assert_whole(first([(0, 98999), (99, 0)], 1000), 1)
        self.assert_whole(first([(99, 0), (0, 100)], 1), 1)
        self.assert_whole(first([(99, 0), (0, 99)], 1), 0)

    def test_the_pace_tells_who_runs(self):
        rows = [(10, 0), (5, 60)]
        self.assert_whole(first(rows, 10), 1)
        self.assert_whole(first(rows, 12), 0)
        self.assert_whole(first(rows, 1000), 0)

    def test_of_equal_aged_ranks_the_nearest_to_the_beginning(self):
        self.assert_whole(first([(4, 0), (4, 0), (4, 0)], 10), 0)
        self.assert_whole(first([(1, 0), (4, 0), (4, 0)], 10), 1)
        self.assert_whole(first([(1, 0), (4, 0), (2, 0), (4, 0)], 10), 1)
        self.assert_whole(first([(1, 0), (0, 0), (4, 0), (4, 9)], 10), 2)

    def test_of_equal_aged_ranks_neither_rank_nor_wait_matters(self):
        # All aged to 6, with other ranks, waits and turns left over.
        same = [(6, 0), (6, 9), (5, 10), (5, 19), (0, 60), (0, 69)]
        for rows in itertools.permutations(same):
            self.assertEqual(first(list(rows), 10), 0)
            self.assertEqual(first([(5, 9)] + list(rows), 10), 1)
            self.assertEqual(first(list(rows) + [(7, 0)], 10), 6)

    def test_waits_of_twelve_figures(self):
        self.assert_whole(first([(0, LONGEST - 1), (0, LONGEST)], 1), 1)
        self.assert_whole(first([(1, LONGEST - 1), (0, LONGEST)], 1), 0)
        self.assert_whole(first([(0, LONGEST), (1, LONGEST)], 1000), 1)
        self.assert_whole(first([(0, LONGEST - 999), (0, LONGEST)], 1000), 0)
        self.assert_whole(first([(0, LONGEST - 1000), (0, LONGEST)], 1000), 1)

    def test_sixty_pairs(self):
        self.assert_whole(first([(7, 3)] * 60, 10), 0)
        self.assert_whole(first([(rank, 0) for rank in range(60)], 10), 59)
        self.assert_whole(first([(rank, 0) for rank in range(59, -1, -1)], 10),
                          0)
        # The wait makes up for the lower rank: 60 times the same aged rank.
        even = [(rank, 10 * (59 - rank)) for rank in range(60)]
        self.assert_whole(first(even, 10), 0)
        even[41] = (41, 10 * (59 - 41) + 10)
        self.assert_whole(first(even, 10), 41)
        even[40] = (40, 10 * (59 - 40) + 19)
        self.assert_whole(first(even, 10), 40)

    def test_all_short_lines(self):
        pairs = list(itertools.product((0, 1, 2), (0, 1, 2, 3, 4)))
        for many in range(4):
            for rows in itertools.product(pairs, repeat=many):
                for pace in (1, 2, 3):
                    self.assertEqual(first(list(rows), pace),
                                     nearest_of_the_greatest(rows, pace),
                                     (rows, pace))

    def test_the_list_is_the_same_afterwards(self):
        for rows in ([], [(3, 4)], [(3, 29), (5, 0), (5, 0), (1, 7)],
                     [(rank, 99 - rank) for rank in range(60)]):
            before = list(rows)
            first(rows, 10)
            self.assertEqual(rows, before)

    def test_the_same_is_told_again(self):
        rows = [(3, 19), (5, 0), (5, 0)]
        self.assertEqual([first(rows, 10) for _ in range(3)], [1, 1, 1])

    def test_numbers_somewhat_out_of_bounds_raise_no_error(self):
        self.assert_whole(first([(-2, 0), (-1, 0)], 10), 1)
        self.assert_whole(first([(-2, 9)], 10), 0)
        self.assert_whole(first([(99, 0), (100, 0)], 1001), 1)
        self.assert_whole(first([(4, 50), (5, 0), (5, 9)], 0), 1)
        self.assert_whole(first([(1, 0)] * 61 + [(2, 0)], 10), 61)


def most_waited(many, pace, turns):
    """The longest waits of a full line, one caller for each rank of `many`.

    Every turn goes to the one that `first` tells, which then goes to the
    line's end; nobody sleeps, waits or leaves."""
    line = [(rank, 0) for rank in many]
    most = {rank: 0 for rank in many}
    for _ in range(turns):
        rank, _ = line.pop(first(line, pace))
        line = [(other, waited + 1) for other, waited in line]
        line.append((rank, 0))
        for other, waited in line:
            most[other] = max(most[other], waited)
    return most


class TestFirstAndLimit(unittest.TestCase):
    """Point [10], as far as `first` and `limit` have it to do."""

    def test_nobody_in_a_line_waits_as_long_as_its_limit(self):
        for many in ((99,), (0, 99), (99, 0), (0, 1, 50, 98, 99),
                     (99, 98, 97, 3, 2), tuple(range(40, 100))):
            for pace in (1, 3, 10):
                most = most_waited(many, pace, 1500)
                for rank in many:
                    with self.subTest(many=many, pace=pace, rank=rank):
                        self.assertLess(most[rank],
                                        limit(rank, pace, len(many)))

    def test_the_lowest_runs_behind_the_top_when_its_time_has_come(self):
        # Rank 0 has aged to 99 after 990 turns, and then stands ahead.
        line = [(99, 0), (0, 0)]
        ran = []
        for _ in range(limit(0, 10, 2)):
            rank, _ = line.pop(first(line, 10))
            line = [(other, waited + 1) for other, waited in line]
            line.append((rank, 0))
            ran.append(rank)
        self.assertEqual(ran.count(0), 1)
        self.assertEqual(ran.index(0), 990)


if __name__ == "__main__":
    unittest.main()
