"""Names, of callers and of bells."""

SIGNS = "abcdefghijklmnopqrstuvwxyz0123456789"
MOST_SIGNS = 12


def is_name(text):
    """True just where the text is a name."""
    if not 1 <= len(text) <= MOST_SIGNS:
        return False
    return all(sign in SIGNS for sign in text)
