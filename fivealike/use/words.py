"""Numbers and lots in texts: told in one way only, and read just from this."""
DIGITS = "0123456789"
# No number that can stand in a text is longer.
MOST_DIGITS = 9
NO_LOT = "-"


def number_in(word):
    """The integer that the word tells, None if it tells none."""
    digits = word[1:] if word[:1] == "-" else word
    if not 1 <= len(digits) <= MOST_DIGITS or not all([digit in DIGITS for digit in digits]):
        return None
    # Nothing has zeros ahead, and 0 has no sign.
    if digits[0] == "0" and word != "0":
        return None
    return int(word)


def lot_in(word):
    """The tuple of the integers that the word tells as a lot, None if it tells none."""
    if word == NO_LOT:
        return ()
    numbers = [number_in(part) for part in word.split(",")]
    return None if None in numbers else tuple(numbers)


def lot_text(numbers):
    """The word for a lot."""
    return ",".join([str(number) for number in numbers]) if len(numbers) > 0 else NO_LOT


def member_text(member):
    """The word for a member of a line: a word, an integer or a lot."""
    if isinstance(member, tuple):
        return lot_text(member)
    return member if isinstance(member, str) else str(member)


def line_text(members):
    """The line of these members, with its end."""
    return " ".join([member_text(member) for member in members]) + "\n"
