"""The names under which a catalogue keeps fours and questions."""

LETTERS = "abcdefghijklmnopqrstuvwxyz"
DIGITS = "0123456789"
MOST_LETTERS = 12


def is_name(text):
    """Tell whether a text is a name."""
    if not 1 <= len(text) <= MOST_LETTERS or text[0] not in LETTERS:
        return False
    return all([letter in LETTERS or letter in DIGITS for letter in text])
