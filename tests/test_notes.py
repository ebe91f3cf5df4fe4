"""Points [13] and [14] and the interface's section rrdesk/notes.py."""

import inspect
import unittest

from helper import (BAD_NAMES, DeskCase, Model, deeds, desk_with, many_names,
                    outcome, view)
from rrdesk import notes
from rrdesk.desk import Desk
from rrdesk.errors import DeskError, NoDesk
from rrdesk.notes import read, shown

LONGEST = 999999999999
# A desk of which each row can be spoiled: the first one and three later ones.
ROWS = ["desk 10 4 25", "a 5 ready 4", "b 0 asleep 7", "c 99 waiting bell"]
# What is written at the place of a number and is none.
NO_NUMBERS = ["+5", "-5", "+0", "-0", "-1", "5_0", "_5", "5_", "05", "00",
              "000", "007", "1000000000000", "0000000000001", "x", "5x", "x5",
              "5.0", "5.", "0x5", "1e1", "5,0", "", "\u0663", "\u00b2",
              "\uff15", "\u00bd", "five", "5\n", "9" * 5000, "True", "None",
              "b5", "5\r", "5\x00"]
# What stands in the place of one blank and is none.
NO_BLANKS = ["  ", "   ", "\t", " \t", "\t ", "\n", "\r", "\x0b", "\x0c",
             "\u00a0", "\u2003", "\u2028", "", "_", "\x1f", "\u3000"]


def text_of(rows):
    return "".join(f"{row}\n" for row in rows)


def with_row(at, row):
    """The good rows as a text, but for the row at that place."""
    return text_of(ROWS[:at] + [row] + ROWS[at + 1:])


def with_word(at, place, word):
    """The good rows as a text, but for one word of one row."""
    words = ROWS[at].split(" ")
    words[place] = word
    return with_row(at, " ".join(words))


class NotesCase(DeskCase):

    def assert_none(self, text):
        with self.subTest(text=text[:200]):
            with self.assertRaises(DeskError) as held:
                read(text)
            self.assertIs(type(held.exception), NoDesk)

    def assert_kept(self, text):
        """The text is read to a desk that is written alike."""
        with self.subTest(text=text):
            desk = read(text)
            self.assertIs(type(desk), Desk)
            self.assertEqual(shown(desk), text)
            self.assertEqual(shown(desk.twin()), text)
        return desk


class TestInterface(unittest.TestCase):

    def test_both_are_defined_in_their_file_with_their_argument(self):
        for name, argument in (("shown", "desk"), ("read", "text")):
            made = getattr(notes, name)
            self.assertEqual(made.__module__, "rrdesk.notes")
            self.assertEqual(list(inspect.signature(made).parameters),
                             [argument])


class TestShown(NotesCase):

    def test_a_new_desk(self):
        self.assertEqual(shown(Desk(10, 5)), "desk 10 5 0\n")
        self.assertEqual(shown(Desk(1, 1)), "desk 1 1 0\n")
        self.assertEqual(shown(Desk(1000, 60)), "desk 1000 60 0\n")

    def test_all_three_states_in_the_order_of_the_line(self):
        desk = desk_with([("a", 5), ("b", 0), ("c", 99), ("d", 50)], 10, 4)
        self.assertEqual(shown(desk), "desk 10 4 0\na 5 ready 0\n"
                         "b 0 ready 0\nc 99 ready 0\nd 50 ready 0\n")
        desk.sleep("b", 7)
        desk.wait("a", "bell")
        self.assertEqual(shown(desk), "desk 10 4 0\nc 99 ready 0\n"
                         "d 50 ready 0\nb 0 asleep 7\na 5 waiting bell\n")
        desk.run(6)
        self.assertEqual(shown(desk), "desk 10 4 6\nd 50 ready 6\n"
                         "b 0 asleep 1\na 5 waiting bell\nc 99 ready 0\n")
        desk.turn()
        self.assertEqual(shown(desk), "desk 10 4 7\nd 50 ready 7\n"
                         "a 5 waiting bell\nb 0 ready 0\nc 99 ready 0\n")

    def test_the_desk_stays_as_it_is(self):
        desk = desk_with([("a", 5), ("b", 0), ("c", 99)], 2)
        desk.sleep("b", 7)
        desk.run(4)
        before = view(desk)
        told = shown(desk)
        self.assertIs(type(told), str)
        self.assertEqual(shown(desk), told)
        self.assertEqual(view(desk), before)

    def test_a_span_of_a_thousand(self):
        desk = desk_with([("a", 5)])
        desk.sleep("a", 1000)
        self.assertEqual(shown(desk), "desk 10 60 0\na 5 asleep 1000\n")

    def test_as_the_points_say_over_long_runs(self):
        for seed in range(4):
            desk = Desk(3, 6)
            model = Model(3, 6)
            for deed, told in deeds(seed, 500):
                outcome(desk, deed, *told)
                outcome(model, deed, *told)
                self.assertEqual(shown(desk), model.view()[-1])


class TestRead(NotesCase):

    def test_a_desk_without_callers(self):
        for pace in (1, 2, 999, 1000):
            for room in (1, 2, 59, 60):
                for time in (0, 1, 10, LONGEST - 1, LONGEST):
                    desk = self.assert_kept(f"desk {pace} {room} {time}\n")
                    self.assert_whole(desk.pace, pace)
                    self.assert_whole(desk.room, room)
                    self.assert_whole(desk.now, time)
                    self.assertEqual(desk.names(), [])

    def test_all_three_states(self):
        desk = self.assert_kept(text_of(ROWS))
        self.assertEqual(desk.names(), ["a", "b", "c"])
        self.assertEqual(desk.ready(), ["a"])
        self.assertEqual([desk.state(name) for name in "abc"],
                         ["ready", "asleep", "waiting"])
        for name, rank in (("a", 5), ("b", 0), ("c", 99)):
            self.assert_whole(desk.rank(name), rank)
        self.assert_whole(desk.waited("a"), 4)
        self.assert_whole(desk.within("a"), 10 * 94 + 4 - 4)
        self.assert_whole(desk.left("b"), 7)
        self.assertEqual(desk.bell("c"), "bell")
        for name in "ac":
            self.assertIsNone(desk.left(name))
        for name in "ab":
            self.assertIsNone(desk.bell(name))
        self.assertEqual(desk.run(8), ["a"] * 7 + ["a"])
        self.assertEqual(desk.names(), ["c", "b", "a"])
        self.assertEqual(desk.ring("bell"), ["c"])
        self.assertEqual(desk.run(2), ["c", "c"])

    def test_every_bound_of_every_number(self):
        for rank in (0, 1, 9, 10, 98, 99):
            desk = self.assert_kept(f"desk 1 1 0\na {rank} ready 0\n")
            self.assert_whole(desk.rank("a"), rank)
        for time in (0, 1, 9, 10, 25, LONGEST):
            for waited in {0, time // 2, time}:
                desk = self.assert_kept(
                    f"desk 1000 60 {time}\na 0 ready {waited}\n")
                self.assert_whole(desk.waited("a"), waited)
                self.assert_whole(desk.now, time)
        for left in (1, 2, 9, 10, 999, 1000):
            for time in (0, LONGEST):
                desk = self.assert_kept(
                    f"desk 1 60 {time}\na 99 asleep {left}\n")
                self.assert_whole(desk.left("a"), left)
        for bell in ("0", "z", "a", "abcdefghijkl", "000000000000", "asleep"):
            desk = self.assert_kept(f"desk 1 1 5\na 0 waiting {bell}\n")
            self.assertEqual(desk.bell("a"), bell)
        for name in ("0", "z", "abcdefghijkl", "desk", "ready", "999999999999"):
            desk = self.assert_kept(f"desk 1 1 5\n{name} 0 ready 5\n")
            self.assertEqual(desk.names(), [name])

    def test_as_many_callers_as_there_is_room_for(self):
        for room in (1, 2, 59, 60):
            for last in ("ready 3", "asleep 9", "waiting c0"):
                rows = [f"{name} 5 {last}" for name in many_names(room)]
                desk = self.assert_kept(text_of([f"desk 7 {room} 3"] + rows))
                self.assertEqual(desk.names(), many_names(room))
                self.assertEqual(outcome(desk, "enter", "x", 5).__name__,
                                 "Full")

    def test_the_text_of_no_desk_is_read_as_it_stands(self):
        # No line is of this order: who waits for longer stands ahead.
        desk = self.assert_kept("desk 4 3 100\nhigh 5 ready 0\nlow 3 ready 8\n"
                                "old 0 ready 100\n")
        self.assertEqual(desk.names(), ["high", "low", "old"])
        self.assertEqual(desk.ready(), ["old", "high", "low"])
        self.assertEqual(desk.foretold(3), ["old", "high", "low"])
        desk = self.assert_kept("desk 1 1 5000\na 99 ready 5000\n")
        self.assert_whole(desk.within("a"), 1 - 5000)

    def test_turns_beyond_twelve_figures_raise_no_error(self):
        desk = read(f"desk 3 3 {LONGEST}\na 5 ready {LONGEST}\n"
                    "b 99 asleep 2\nc 6 waiting bell\n")
        self.assertEqual(desk.run(4), ["a", "a", "b", "b"])
        self.assert_whole(desk.now, LONGEST + 4)
        self.assertTrue(shown(desk).startswith("desk 3 3 1000000000003\n"))

    def test_two_desks_that_were_read_have_nothing_to_do_with_one_another(self):
        one = read(text_of(ROWS))
        other = read(text_of(ROWS))
        one.run(9)
        one.ring("bell")
        one.leave("a")
        self.assertEqual(shown(other), text_of(ROWS))

    def test_it_goes_on_alike(self):
        for seed in range(5):
            desk = Desk(2, 7)
            for deed, told in deeds(seed, 300):
                outcome(desk, deed, *told)
            copy = self.assert_kept(shown(desk))
            self.assertEqual(view(copy), view(desk))
            self.assertEqual(copy.foretold(1000), desk.foretold(1000))
            for deed, told in deeds(seed + 50, 300):
                self.assertEqual(outcome(copy, deed, *told),
                                 outcome(desk, deed, *told))
                self.assertEqual(view(copy), view(desk))

    def test_it_is_read_alike_behind_each_deed(self):
        for seed in range(3):
            desk = Desk(3, 5)
            for deed, told in deeds(seed, 300):
                outcome(desk, deed, *told)
                copy = read(shown(desk))
                self.assertEqual(view(copy), view(desk))
                self.assertEqual(copy.run(30), desk.foretold(30))


class TestNoDesk(NotesCase):

    def test_the_rows_that_are_spoiled_here_are_good(self):
        self.assert_kept(text_of(ROWS))
        for at, row in enumerate(ROWS):
            self.assertEqual(with_row(at, row), text_of(ROWS))

    def test_texts_without_rows(self):
        for text in ("", "\n", "\n\n", " ", " \n", "desk", "desk\n", "x\n",
                     "\t\n", "\r\n"):
            self.assert_none(text)

    def test_the_last_line_end(self):
        for many in range(1, len(ROWS) + 1):
            good = text_of(ROWS[:many])
            self.assert_kept(good)
            self.assert_none(good[:-1])
            for behind in (" ", "\n", "x", "\t", "\r", "\r\n", " \n", "0",
                           "\x00", "desk 10 4 25\n", "a 5 ready 4"):
                self.assert_none(good + behind)
            for ahead in (" ", "\n", "\t", "x", "\ufeff", "a 5 ready 4\n"):
                self.assert_none(ahead + good)

    def test_other_line_ends(self):
        for end in ("\r\n", "\r", "\x0b", "\x0c", "\u2028", "\x85", "\n\r",
                    "\n\n", " \n", "\n "):
            self.assert_none("".join(f"{row}{end}" for row in ROWS))
            for at in range(len(ROWS) - 1):
                text = text_of(ROWS[:at]) + ROWS[at] + end
                self.assert_none(text + text_of(ROWS[at + 1:]))

    def test_another_number_of_words(self):
        for at, row in enumerate(ROWS):
            words = row.split(" ")
            for place in range(len(words)):
                self.assert_none(with_row(
                    at, " ".join(words[:place] + words[place + 1:])))
                self.assert_none(with_row(at, " ".join(words[:place])))
            for place in range(len(words) + 1):
                for more in ("5", "x", "ready"):
                    self.assert_none(with_row(
                        at, " ".join(words[:place] + [more] + words[place:])))

    def test_other_blanks(self):
        for at, row in enumerate(ROWS):
            words = row.split(" ")
            for blank in NO_BLANKS:
                for place in range(1, len(words)):
                    self.assert_none(with_row(
                        at, " ".join(words[:place]) + blank
                        + " ".join(words[place:])))
            for blank in (" ", "  ", "\t", "\r", "\u00a0", "\x0b"):
                self.assert_none(with_row(at, blank + row))
                self.assert_none(with_row(at, row + blank))

    def test_an_empty_row(self):
        for at in range(len(ROWS) + 1):
            for row in ("", " ", "   ", "\t"):
                self.assert_none(text_of(ROWS[:at] + [row] + ROWS[at:]))
        for at in range(len(ROWS)):
            for row in ("", " ", "   ", "\t"):
                self.assert_none(with_row(at, row))

    def test_the_first_row(self):
        for word in ("Desk", "DESK", "desks", "des", "a", "", "0", "desk:"):
            self.assert_none(with_word(0, 0, word))
        self.assert_none(text_of(ROWS[1:]))
        self.assert_none(text_of(ROWS[1:] + ROWS[:1]))
        # A caller may be called so, but a second first row is no caller's.
        self.assert_none(text_of(ROWS + ["desk 10 4 25"]))
        self.assert_none(text_of(["desk 10 4 25"] * 2))

    def test_numbers_that_are_none(self):
        for at, place in ((0, 1), (0, 2), (0, 3), (1, 1), (1, 3), (2, 1),
                          (2, 3), (3, 1)):
            for word in NO_NUMBERS:
                self.assert_none(with_word(at, place, word))

    def test_each_number_just_out_of_its_bounds(self):
        for at, place, words in (
                (0, 1, ["0", "1001", LONGEST]), (0, 2, ["0", "61", LONGEST]),
                (0, 3, ["1000000000000"]),
                (1, 1, ["100", "101", LONGEST]), (2, 1, ["100", LONGEST]),
                (3, 1, ["100", LONGEST]), (1, 3, ["26", "27", LONGEST]),
                (2, 3, ["0", "1001", LONGEST])):
            for word in words:
                self.assert_none(with_word(at, place, str(word)))

    def test_a_wait_greater_than_the_time(self):
        for time in (0, 1, 25, LONGEST - 1):
            self.assert_kept(f"desk 1 9 {time}\na 5 ready {time}\n")
            self.assert_none(f"desk 1 9 {time}\na 5 ready {time + 1}\n")
            self.assert_none(f"desk 1 9 {time}\na 5 ready 0\n"
                             f"b 5 ready {time + 1}\n")

    def test_a_state_of_another_spelling(self):
        for at in (1, 2, 3):
            for state in ("Ready", "READY", "read", "readyy", "sleep",
                          "Asleep", "asleeps", "wait", "Waiting", "waits",
                          "", "x", "5", "gone", "None"):
                self.assert_none(with_word(at, 2, state))

    def test_the_last_word_of_another_state(self):
        self.assert_none(with_word(1, 3, "bell"))
        self.assert_none(with_word(2, 3, "bell"))
        # A figure is a name of a bell, too.
        self.assert_kept(with_word(3, 3, "7"))
        self.assert_kept(with_word(3, 3, "007"))
        self.assert_kept(with_word(3, 3, "000000000000"))

    def test_a_name_that_is_none(self):
        for at in (1, 2, 3):
            for name in BAD_NAMES + ["A", "-", "a" * 13, "a.b", "\u0430"]:
                self.assert_none(with_word(at, 0, name))

    def test_a_bell_that_is_none(self):
        for bell in BAD_NAMES + ["Bell", "-", "a" * 13, "a.b", "\u0430"]:
            self.assert_none(with_word(3, 3, bell))
            self.assert_none(text_of(["desk 10 4 25", f"a 5 waiting {bell}"]))

    def test_a_name_that_stands_twice(self):
        for at in (1, 2, 3):
            for other in (1, 2, 3):
                if at != other:
                    name = ROWS[other].split(" ")[0]
                    self.assert_none(with_word(at, 0, name))
            self.assert_none(text_of(ROWS + [ROWS[at]]))

    def test_more_callers_than_room(self):
        for room in (1, 2, 59, 60):
            for last in ("ready 3", "asleep 9", "waiting bell"):
                rows = [f"{name} 5 {last}" for name in many_names(room + 1)]
                self.assert_kept(text_of([f"desk 7 {room} 3"] + rows[:-1]))
                self.assert_none(text_of([f"desk 7 {room} 3"] + rows))
        self.assert_none(with_word(0, 2, "2"))
        self.assert_kept(with_word(0, 2, "3"))

    def test_a_desk_of_thirteen_figures_is_not_read(self):
        desk = read(f"desk 3 3 {LONGEST}\n")
        desk.turn()
        self.assert_none(shown(desk))


if __name__ == "__main__":
    unittest.main()
