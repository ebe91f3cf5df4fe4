"""A caller: who it is and what it does."""

READY = "ready"
ASLEEP = "asleep"
WAITING = "waiting"


class Caller:
    """One caller; its place in the line is kept by its desk."""

    def __init__(self, name, rank, since):
        self.name = name
        self.rank = rank
        self.state = READY
        self.since = since
        self.due = None
        self.bell = None

    def become(self, state, since=None, due=None, bell=None):
        """Take a state; what belonged to the one before is forgotten.

        `since` is the time from which a ready caller has waited, `due` the
        time to wake of one asleep, `bell` what a waiting one waits for."""
        self.state = state
        self.since = since
        self.due = due
        self.bell = bell

    def alike(self):
        """Another caller with the same values."""
        other = Caller(self.name, self.rank, self.since)
        other.become(self.state, self.since, self.due, self.bell)
        return other
