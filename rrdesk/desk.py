"""A desk that gives turns to its callers."""

from rrdesk.callers import ASLEEP, READY, WAITING, Caller
from rrdesk.errors import Full, IsReady, Known, NoDesk, NoName, NoRank, NoSpan, NotReady, Unknown
from rrdesk.names import is_name
from rrdesk.ranks import TOP, aged, first, limit

MOST_PACE = 1000
MOST_ROOM = 60
MOST_TURNS = 1000


def check_name(text):
    """NoName where the text is no name."""
    if not is_name(text):
        raise NoName(f"{text!r} is no name")


def check_rank(rank):
    """NoRank where the rank is out of its bounds."""
    if not 0 <= rank <= TOP:
        raise NoRank(f"a rank is from 0 to {TOP}, not {rank}")


def check_span(many, least):
    """NoSpan where so many turns are out of their bounds."""
    if not least <= many <= MOST_TURNS:
        raise NoSpan(f"the turns are from {least} to {MOST_TURNS}, not {many}")


def check_ready(caller):
    """NotReady where the caller is asleep or waiting."""
    if caller.state != READY:
        raise NotReady(f"{caller.name} is {caller.state}")


def check_not_ready(caller):
    """IsReady where the caller is neither asleep nor waiting."""
    if caller.state == READY:
        raise IsReady(f"{caller.name} is ready")


class Desk:
    """A desk: it gives one turn behind the other and counts them."""

    def __init__(self, pace, room):
        if not 1 <= pace <= MOST_PACE:
            raise NoDesk(f"a pace is from 1 to {MOST_PACE}, not {pace}")
        if not 1 <= room <= MOST_ROOM:
            raise NoDesk(f"room is from 1 to {MOST_ROOM}, not {room}")
        self.pace = pace
        self.room = room
        self.now = 0
        # The callers by their names. The order of the dict is the line, so
        # a caller goes to the line's end by being put in anew.
        self._line = {}

    def enter(self, name, rank):
        """Let a new caller in, ready, at the line's end."""
        check_name(name)
        check_rank(rank)
        if name in self._line:
            raise Known(f"there is a caller {name} already")
        if len(self._line) >= self.room:
            raise Full(f"there is room for {self.room} callers only")
        self._line[name] = Caller(name, rank, self.now)

    def leave(self, name):
        """Let the caller go, and keep nothing of it."""
        caller = self._known(name)
        del self._line[caller.name]

    def sleep(self, name, many):
        """Put a ready caller to sleep for so many turns."""
        caller = self._known(name)
        check_span(many, 1)
        check_ready(caller)
        caller.become(ASLEEP, due=self.now + many)
        self._go_last(caller)

    def wait(self, name, bell):
        """Let a ready caller wait until the bell rings."""
        caller = self._known(name)
        check_name(bell)
        check_ready(caller)
        caller.become(WAITING, bell=bell)
        self._go_last(caller)

    def wake(self, name):
        """Make one caller ready that is asleep or waiting."""
        caller = self._known(name)
        check_not_ready(caller)
        self._make_ready([caller])

    def ring(self, bell):
        """Make ready all that wait for the bell; their names, in order."""
        check_name(bell)
        woken = [caller for caller in self._line.values() if caller.bell == bell]
        self._make_ready(woken)
        return [caller.name for caller in woken]

    def rerank(self, name, rank):
        """Change the rank of a caller that is asleep or waiting."""
        caller = self._known(name)
        check_rank(rank)
        check_not_ready(caller)
        caller.rank = rank

    def turn(self):
        """Give one turn; the name of the caller that ran, or None."""
        ran = self._chosen()
        self.now += 1
        self._make_ready([caller for caller in self._line.values() if caller.due == self.now])
        if ran is None:
            return None
        # It has waited nought from now on, as one that has just come to be
        # ready, and stands behind those that woke at this turn.
        self._make_ready([ran])
        return ran.name

    def run(self, many):
        """Give so many turns; what `turn` tells for each."""
        check_span(many, 0)
        told = []
        for _ in range(many):
            told.append(self.turn())
        return told

    def foretold(self, many):
        """What `run` would tell now; the desk stays as it is."""
        return self.twin().run(many)

    def names(self):
        """All names in the line's order."""
        return list(self._line)

    def ready(self):
        """The names of the ready callers, as they would be chosen."""
        callers = self._ready_callers()
        # Equal ones keep the line's order: `sorted` leaves it as it is.
        chosen = sorted(callers, key=lambda caller: -aged(caller.rank, self._waited(caller), self.pace))
        return [caller.name for caller in chosen]

    def state(self, name):
        """What the caller does: "ready", "asleep" or "waiting"."""
        return self._known(name).state

    def rank(self, name):
        """The caller's rank, without what it has aged."""
        return self._known(name).rank

    def waited(self, name):
        """For how many turns the ready caller has waited."""
        caller = self._known(name)
        check_ready(caller)
        return self._waited(caller)

    def within(self, name):
        """Within how many of the next turns the ready caller runs."""
        caller = self._known(name)
        check_ready(caller)
        return limit(caller.rank, self.pace, self.room) - self._waited(caller)

    def left(self, name):
        """How many turns there are until the caller wakes, or None."""
        caller = self._known(name)
        if caller.due is None:
            return None
        return caller.due - self.now

    def bell(self, name):
        """The bell that the caller waits for, or None."""
        return self._known(name).bell

    def twin(self):
        """Another desk that is alike."""
        other = Desk(self.pace, self.room)
        other.now = self.now
        other._line = {caller.name: caller.alike() for caller in self._line.values()}
        return other

    def _known(self, name):
        """The caller of that name; Unknown where there is none."""
        caller = self._line.get(name)
        if caller is None:
            raise Unknown(f"there is no caller {name!r}")
        return caller

    def _waited(self, caller):
        """How far the time has grown since the ready caller waits."""
        return self.now - caller.since

    def _ready_callers(self):
        """The ready callers in the line's order."""
        return [caller for caller in self._line.values() if caller.state == READY]

    def _chosen(self):
        """The caller that runs at the next turn, or None."""
        callers = self._ready_callers()
        place = first([(caller.rank, self._waited(caller)) for caller in callers], self.pace)
        if place is None:
            return None
        return callers[place]

    def _make_ready(self, callers):
        """Make them ready now, each behind all others in the line."""
        for caller in callers:
            caller.become(READY, since=self.now)
            self._go_last(caller)

    def _go_last(self, caller):
        """Put the caller at the line's end."""
        del self._line[caller.name]
        self._line[caller.name] = caller
