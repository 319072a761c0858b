"""Numbers in texts."""


def number_of(word, least, most):
    """The number from least to most that the word is, as str writes it; None for any other word."""
    # The length is looked at first, since Python refuses to read very long numbers.
    if len(word) > len(str(most)) or not word.isascii() or not word.isdigit():
        return None
    number = int(word)
    if str(number) != word or not least <= number <= most:
        return None
    return number
