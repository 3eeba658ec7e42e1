"""What plain values are, how numbers are written, and rows that lead around."""

LETTERS = "abcdefghijklmnopqrstuvwxyz"
MOST_LETTERS = 8
DIGITS = "0123456789"
MOST_DIGITS = 30


def is_number(value):
    """Tell whether any value is an integer; Python counts booleans among the integers, the package does not."""
    return isinstance(value, int) and not isinstance(value, bool)


def is_row(value):
    """Tell whether any value may stand where a list is documented."""
    return isinstance(value, (list, tuple))


def copied(value):
    """Return any value with new lists in the place of its lists."""
    if isinstance(value, list):
        return [copied(item) for item in value]
    if isinstance(value, tuple):
        return tuple([copied(item) for item in value])
    return value


def is_name(value):
    """Tell whether any value is a name."""
    if not isinstance(value, str) or value == "" or len(value) > MOST_LETTERS:
        return False
    return all([letter in LETTERS for letter in value])


def read_number(text):
    """Return the number that a text tells, or None if no number is written so."""
    digits = text[1:] if text.startswith("-") else text
    if digits == "" or len(digits) > MOST_DIGITS or not all([digit in DIGITS for digit in digits]):
        return None
    number = int(text)
    # Leading zeros and -0 are written otherwise again.
    return number if str(number) == text else None


def read_row(text):
    """Return the list of the numbers that a text has with commas between, or None if no numbers are written so."""
    numbers = [read_number(part) for part in text.split(",")]
    return None if None in numbers else numbers


def row_text(numbers):
    """Return the text with the numbers of a row, with commas between."""
    return ",".join([str(number) for number in numbers])


def least_turn(items):
    """Return the least of the tuples that begin at one item of a row and go on around."""
    row = tuple(items)
    start = least_start(row)
    return row[start:] + row[:start]


def least_start(row):
    """Return the index at which the least turn of a row begins.

    Two starts are compared, item by item. A start that loses after some equal items takes the starts among these
    items along, as the other start has a better one for each. So long rows need no turn to be written out.
    """
    many = len(row)
    start = 0
    rival = 1
    equal = 0
    while start < many and rival < many and equal < many:
        here = row[(start + equal) % many]
        there = row[(rival + equal) % many]
        if here == there:
            equal += 1
            continue
        if here < there:
            rival += equal + 1
        else:
            start += equal + 1
        if start == rival:
            rival += 1
        equal = 0
    return min(start, rival)


def same_round(one, other):
    """Tell whether two rows lead around in the same way, in the same direction or in opposite ones."""
    least = least_turn(one)
    return least == least_turn(other) or least == least_turn([-item for item in other[::-1]])
