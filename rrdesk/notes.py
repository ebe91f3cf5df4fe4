"""A desk written as a text, and read from one."""

from rrdesk.callers import ASLEEP, READY, WAITING
from rrdesk.desk import Desk
from rrdesk.errors import DeskError, NoDesk

HEAD = "desk"
WORDS = 4
FIGURES = "0123456789"
MOST_FIGURES = 12


def shown(desk):
    """The desk as a text of rows, each with a line end behind it."""
    rows = [f"{HEAD} {desk.pace} {desk.room} {desk.now}"]
    for name in desk.names():
        rows.append(f"{name} {desk.rank(name)} {doing(desk, name)}")
    return "\n".join(rows) + "\n"


def doing(desk, name):
    """The last two words of a caller's row."""
    state = desk.state(name)
    if state == READY:
        return f"{state} {desk.waited(name)}"
    if state == ASLEEP:
        return f"{state} {desk.left(name)}"
    return f"{state} {desk.bell(name)}"


def read(text):
    """The desk that the text tells; NoDesk where it tells none."""
    if not text.endswith("\n"):
        raise NoDesk("the text has no row, or its last row no line end")
    rows = text[:-1].split("\n")
    try:
        desk = begun(words_of(rows[0]))
        for row in rows[1:]:
            seat(desk, words_of(row))
    except DeskError as refusal:
        # The desk itself refuses names, ranks and the like, each in its
        # own way; here all of it means that the text is of another form.
        raise NoDesk(str(refusal)) from refusal
    return desk


def begun(words):
    """The desk of the first row, without callers."""
    head, pace, room, time = words
    if head != HEAD:
        raise NoDesk(f"the first row begins with {head!r}")
    desk = Desk(number(pace), number(room))
    desk.now = number(time)
    return desk


def seat(desk, words):
    """Put the caller of one row at the line's end."""
    name, rank, state, told = words
    if state == READY:
        seat_ready(desk, name, number(rank), number(told))
        return
    desk.enter(name, number(rank))
    if state == ASLEEP:
        desk.sleep(name, number(told))
    elif state == WAITING:
        desk.wait(name, told)
    else:
        raise NoDesk(f"{state!r} is no state")


def seat_ready(desk, name, rank, waited):
    """Put a ready caller at the line's end that has waited so long."""
    if waited > desk.now:
        raise NoDesk(f"{name!r} has waited for longer than there is a desk")
    # Who enters has waited nought: so it enters at the time from which on
    # it has waited.
    desk.now -= waited
    desk.enter(name, rank)
    desk.now += waited


def words_of(row):
    """The four words of a row."""
    words = row.split(" ")
    if len(words) != WORDS:
        raise NoDesk(f"a row has {WORDS} words with one blank between them, unlike {row!r}")
    return words


def number(word):
    """The whole number that the word writes."""
    if not 1 <= len(word) <= MOST_FIGURES:
        raise NoDesk(f"a number has 1 to {MOST_FIGURES} figures, unlike {word!r}")
    if any(sign not in FIGURES for sign in word):
        raise NoDesk(f"{word!r} is no number")
    if word[0] == "0" and word != "0":
        raise NoDesk(f"{word!r} has a nought ahead")
    return int(word)
