"""What words and integers are."""

LONGEST_WORD = 8


def is_word(value):
    """Tell whether any value is a word."""
    if not isinstance(value, str) or not 1 <= len(value) <= LONGEST_WORD:
        return False
    return all(["a" <= letter <= "z" for letter in value])


def is_integer(value):
    """Tell whether any value is an integer: True and False are none."""
    return isinstance(value, int) and not isinstance(value, bool)


def are_words(value, most):
    """Tell whether any value is a tuple of 1 to most different words."""
    if not isinstance(value, tuple) or not 1 <= len(value) <= most:
        return False
    return all([is_word(word) for word in value]) and len(set(value)) == len(value)


def are_notes(value):
    """Tell whether any value is a list or tuple of words."""
    return isinstance(value, (list, tuple)) and all([is_word(word) for word in value])
