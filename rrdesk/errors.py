"""The refusals of a desk, one class for each kind."""


class DeskError(ValueError):
    """Any refusal."""


class NoName(DeskError):
    """A text that has to be a name is none."""


class NoRank(DeskError):
    """A rank is out of its bounds."""


class NoSpan(DeskError):
    """A number of turns is out of its bounds."""


class NoDesk(DeskError):
    """A pace, a room or a written text makes no desk."""


class Known(DeskError):
    """There is a caller of that name already."""


class Unknown(DeskError):
    """There is no caller of that name."""


class Full(DeskError):
    """The desk has no room for one more caller."""


class NotReady(DeskError):
    """The caller is asleep or waiting, and had to be ready."""


class IsReady(DeskError):
    """The caller is ready, and had to be asleep or waiting."""
