"""What words and integers are, and when values are the same."""

LONGEST_WORD = 8


def is_word(value):
    """Tell whether any value is a word."""
    if not isinstance(value, str) or not 1 <= len(value) <= LONGEST_WORD:
        return False
    return all(["a" <= letter <= "z" for letter in value])


def is_integer(value):
    """Tell whether any value is an integer: True and False are none."""
    return isinstance(value, int) and not isinstance(value, bool)


def are_words(value, most):
    """Tell whether any value is a tuple of 1 to most different words."""
    if not isinstance(value, tuple) or not 1 <= len(value) <= most:
        return False
    return all([is_word(word) for word in value]) and len(set(value)) == len(value)


def are_notes(value):
    """Tell whether any value is a list or tuple of words."""
    return isinstance(value, (list, tuple)) and all([is_word(word) for word in value])


def is_same(value, told):
    """Tell whether any value equals one of words, integers, flags and tuples, with integers and flags told apart."""
    if isinstance(told, tuple):
        if not isinstance(value, tuple) or len(value) != len(told):
            return False
        return all([is_same(part, other) for part, other in zip(value, told)])
    if isinstance(told, str):
        return isinstance(value, str) and value == told
    return isinstance(value, int) and isinstance(value, bool) == isinstance(told, bool) and value == told
