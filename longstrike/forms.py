"""What forms the objects have that callers hand in: names, numbers, words, lists and pairs."""

LETTERS = "abcdefghijklmnopqrstuvwxyz"
LONGEST_NAME = 8
# The mark of a struck row, which no column may be mistaken for.
STRIKE = "strike"


def is_name(thing):
    """Tell whether any object is a name."""
    if not isinstance(thing, str) or thing == STRIKE:
        return False
    return 1 <= len(thing) <= LONGEST_NAME and all([letter in LETTERS for letter in thing])


def is_number(thing):
    """Tell whether any object is a number."""
    return isinstance(thing, int) and not isinstance(thing, bool) and 0 <= thing < 10 ** 30


def is_word_of(thing, words):
    """Tell whether any object is one of these strings, which are a list, a tuple or the keys of a dict."""
    # Other objects may have no place among the keys of a dict.
    return isinstance(thing, str) and thing in words


def is_row(thing):
    """Tell whether any object is a list or a tuple."""
    return isinstance(thing, (list, tuple))


def is_list_of_numbers(thing, most):
    """Tell whether any object is a list or tuple of 1 to `most` different numbers."""
    if not is_row(thing) or not 1 <= len(thing) <= most:
        return False
    return all([is_number(number) for number in thing]) and len(set(thing)) == len(thing)


def is_list_of_owners(thing):
    """Tell whether any object is a list or tuple of pairs of unlike strings and numbers."""
    if not is_row(thing) or not all([is_owner_pair(pair) for pair in thing]):
        return False
    return len({pair[0] for pair in thing}) == len(thing)


def is_owner_pair(thing):
    """Tell whether any object is a pair of a string and a number."""
    return is_row(thing) and len(thing) == 2 and isinstance(thing[0], str) and is_number(thing[1])


def pairs_of(owners):
    """Return the list of the pairs of a dict, or of a list of pairs."""
    if isinstance(owners, dict):
        return list(owners.items())
    return [(name, owner) for name, owner in owners]
