"""Words and numbers in texts."""


def number_of(word, least, most):
    """The number from least to most that the word is, as str writes it; None for any other word."""
    # The length is looked at first, since Python refuses to read very long numbers.
    if len(word) > len(str(most)) or not word.isascii() or not word.isdigit():
        return None
    number = int(word)
    if str(number) != word or not least <= number <= most:
        return None
    return number


def fits(word, slot):
    """Whether the word may stand in a slot, a tuple of the words that may, or of the least and the greatest number."""
    if isinstance(slot[0], str):
        return word in slot
    return number_of(word, slot[0], slot[1]) is not None


def wrong_among(words, slots):
    """The index of the first of these words that does not fit its slot, or their number if one lacks; else None."""
    for at, word in enumerate(words):
        if at >= len(slots) or not fits(word, slots[at]):
            return at
    return len(words) if len(words) < len(slots) else None
