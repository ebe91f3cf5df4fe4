"""What several tests need: a desk after the document's words, and deeds."""

import random
import string
import unittest

from rrdesk import errors
from rrdesk.desk import Desk
from rrdesk.notes import shown

# Each deed that is told a caller's name, with what it is told beside it.
NAMED = [("leave", ()), ("sleep", (1,)), ("wait", ("bell",)), ("wake", ()),
         ("rerank", (5,)), ("state", ()), ("rank", ()), ("waited", ()),
         ("within", ()), ("left", ()), ("bell", ())]
BAD_NAMES = ["", "A", "a b", " a", "a ", "a\n", "\n", "a\tb", "a-b", "a_b",
             "\u00e9", "\u00b2", "abcdefghijklm"]


def desk_with(callers, pace=10, room=60):
    """A desk that the callers, pairs of name and rank, have entered."""
    desk = Desk(pace, room)
    for name, rank in callers:
        desk.enter(name, rank)
    return desk


def many_names(many):
    return [f"c{at}" for at in range(many)]


def view(desk):
    """All that the desk tells of itself."""
    rows = []
    for name in desk.names():
        state = desk.state(name)
        waited = within = None
        if state == "ready":
            waited = desk.waited(name)
            within = desk.within(name)
        rows.append((name, desk.rank(name), state, waited, within,
                     desk.left(name), desk.bell(name)))
    return (desk.pace, desk.room, desk.now, rows, desk.ready(), shown(desk))


def outcome(desk, deed, *told):
    """What the deed tells, or the class of its refusal."""
    try:
        return getattr(desk, deed)(*told)
    except errors.DeskError as refusal:
        return type(refusal)


class DeskCase(unittest.TestCase):

    def assert_refused(self, kind, desk, deed, *told):
        """It is refused by this class alone, and nothing is changed."""
        before = view(desk)
        with self.assertRaises(errors.DeskError) as held:
            getattr(desk, deed)(*told)
        self.assertIs(type(held.exception), kind, (deed, told))
        self.assertEqual(view(desk), before)

    def assert_whole(self, told, meant):
        # True and 1.0 equal 1, but neither is a whole number here.
        self.assertIs(type(told), int)
        self.assertEqual(told, meant)


class Model:
    """A desk as the points tell it: each turn is counted for each caller.

    The line is a list of rows [name, rank, state, what], where `what` is the
    wait, the turns left or the bell."""

    def __init__(self, pace, room):
        self.pace = pace
        self.room = room
        self.now = 0
        self.line = []

    def row(self, name):
        for row in self.line:
            if row[0] == name:
                return row
        raise errors.Unknown

    def last(self, row, state, what):
        self.line.remove(row)
        row[2:] = [state, what]
        self.line.append(row)

    def be_name(self, text):
        signs = string.ascii_lowercase + string.digits
        if not 0 < len(text) < 13 or set(text) - set(signs):
            raise errors.NoName

    def be_rank(self, rank):
        if rank not in range(100):
            raise errors.NoRank

    def be_ready(self, row):
        if row[2] != "ready":
            raise errors.NotReady

    def be_not_ready(self, row):
        if row[2] == "ready":
            raise errors.IsReady

    def enter(self, name, rank):
        self.be_name(name)
        self.be_rank(rank)
        if name in self.names():
            raise errors.Known
        if len(self.line) == self.room:
            raise errors.Full
        self.line.append([name, rank, "ready", 0])

    def leave(self, name):
        self.line.remove(self.row(name))

    def sleep(self, name, many):
        row = self.row(name)
        if many not in range(1, 1001):
            raise errors.NoSpan
        self.be_ready(row)
        self.last(row, "asleep", many)

    def wait(self, name, bell):
        row = self.row(name)
        self.be_name(bell)
        self.be_ready(row)
        self.last(row, "waiting", bell)

    def wake(self, name):
        row = self.row(name)
        self.be_not_ready(row)
        self.last(row, "ready", 0)

    def ring(self, bell):
        self.be_name(bell)
        rung = [row for row in self.line if row[2:] == ["waiting", bell]]
        for row in rung:
            self.last(row, "ready", 0)
        return [row[0] for row in rung]

    def rerank(self, name, rank):
        row = self.row(name)
        self.be_rank(rank)
        self.be_not_ready(row)
        row[1] = rank

    def ready_rows(self):
        rows = [row for row in self.line if row[2] == "ready"]
        reached = [row[1] + row[3] // self.pace for row in rows]
        order = sorted(range(len(rows)), key=lambda at: (-reached[at], at))
        return [rows[at] for at in order]

    def turn(self):
        chosen = self.ready_rows()[:1]
        self.now += 1
        woken = []
        for row in self.line:
            if row[2] == "ready":
                row[3] += 1
            elif row[2] == "asleep":
                row[3] -= 1
                if row[3] == 0:
                    woken.append(row)
        for row in woken + chosen:
            self.last(row, "ready", 0)
        return chosen[0][0] if chosen else None

    def names(self):
        return [row[0] for row in self.line]

    def view(self):
        """As `view` above of a desk that is alike."""
        rows = []
        text = f"desk {self.pace} {self.room} {self.now}\n"
        for name, rank, state, what in self.line:
            text += f"{name} {rank} {state} {what}\n"
            waited = within = left = bell = None
            if state == "ready":
                waited = what
                within = self.pace * (99 - rank) + self.room - what
            elif state == "asleep":
                left = what
            else:
                bell = what
            rows.append((name, rank, state, waited, within, left, bell))
        ready = [row[0] for row in self.ready_rows()]
        return (self.pace, self.room, self.now, rows, ready, text)


def deeds(seed, many, pool=12, ranks=range(100)):
    """So many deeds, the same for one seed: pairs of a deed and its arguments.

    About every eighth is told something that is out of its bounds."""
    chance = random.Random(seed)
    names = many_names(pool) + ["bell0"]
    bells = ["bell0", "bell1", "c0"]

    def one(good, bad):
        return chance.choice(bad if chance.random() < 0.04 else good)

    def name():
        return one(names, BAD_NAMES + ["nobody"])

    def rank():
        return one(ranks, [-1, 100, 10 ** 9])

    def bell():
        return one(bells, BAD_NAMES + ["bell2"])

    def span():
        return one([1, 1, 2, 3, 5, 8, 40], [0, -1, 1000, 1001])

    kinds = {
        "turn": lambda: (), "enter": lambda: (name(), rank()),
        "leave": lambda: (name(),), "sleep": lambda: (name(), span()),
        "wait": lambda: (name(), bell()), "wake": lambda: (name(),),
        "ring": lambda: (bell(),), "rerank": lambda: (name(), rank())}
    weights = [40, 16, 2, 10, 10, 4, 4, 4]
    told = []
    for _ in range(many):
        deed = chance.choices(list(kinds), weights)[0]
        told.append((deed, kinds[deed]()))
    return told
