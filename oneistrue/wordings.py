"""Words of texts: how values are written, and which value a word is, None if it is none."""

from oneistrue.kinds import is_quotient


def quotient_word(quotient):
    return f"{quotient[0]}/{quotient[1]}"


def read_number(word):
    # A number is written in one way only, so none begins with a 0 but 0 itself.
    if not word.isascii() or not word.isdigit() or (len(word) > 1 and word[0] == "0"):
        return None
    return int(word)


def read_positive(word):
    number = read_number(word)
    if number == 0:
        return None
    return number


def read_integer(word):
    if not word.startswith("-"):
        return read_number(word)
    number = read_positive(word[1:])
    if number is None:
        return None
    return -number


def read_quotient(word):
    top_word, _, bottom_word = word.partition("/")
    quotient = (read_integer(top_word), read_number(bottom_word))
    if not is_quotient(quotient):
        return None
    return quotient


def read_numbers(word, sign):
    """The tuple of the numbers that are parted by the sign."""
    numbers = tuple([read_number(part) for part in word.split(sign)])
    if None in numbers:
        return None
    return numbers


def read_positives(word, sign):
    """The tuple of the integers of at least 1 that are parted by the sign."""
    numbers = read_numbers(word, sign)
    if numbers is None or 0 in numbers:
        return None
    return numbers


def read_two(numbers):
    """The numbers if they are two, else None."""
    if numbers is None or len(numbers) != 2:
        return None
    return numbers
