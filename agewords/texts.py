"""Texts of wordings: their lines, their words and their numbers."""

from agewords.errors import BadText

WAYS = ("down", "up", "near")
DIGITS = "0123456789"
LETTERS = "abcdefghijklmnopqrstuvwxyz"
MOST_DIGITS = 31
MOST_LETTERS = 12
MOST_ROWS = 6
CHUNK_DIGITS = 64
CHUNK = 10 ** 64


def decimal(number):
    """A number from 0 on in digits, in chunks: Python refuses to write very long numbers at once."""
    chunks = []
    while number >= CHUNK:
        chunks.append(str(number % CHUNK).zfill(CHUNK_DIGITS))
        number = number // CHUNK
    return str(number) + "".join(reversed(chunks))


def number_or_dash(number):
    """How the text of a row writes an until or a unit."""
    return "-" if number is None else decimal(number)


def row_line(row):
    """The line of a row."""
    return f"{number_or_dash(row.until)} {number_or_dash(row.unit)} {row.way} {row.word}"


def made_of(word, characters):
    """Whether the word has no other characters than these."""
    return all([character in characters for character in word])


def is_number(word):
    """Whether the word, which is not empty, is a number from 1 on as texts have it."""
    return len(word) <= MOST_DIGITS and made_of(word, DIGITS) and word[0] != "0"


def is_row(words):
    """Whether the words of a line are those of a row, wherever it may stand."""
    if len(words) != 4:
        return False
    until, unit, way, word = words
    if way not in WAYS or not made_of(word, LETTERS) or len(word) > MOST_LETTERS:
        return False
    return all([part == "-" or is_number(part) for part in (until, unit)])


def value_of(word):
    """The until or unit that a right word tells."""
    return None if word == "-" else int(word)


def until_fits(until, before, is_last):
    """Whether an until may stand behind that of the line before (0 ahead of all lines)."""
    if is_last:
        return until is None
    return until is not None and until > before


def read_rows(text):
    """The rows of a text, each as a tuple (until, unit, way, word)."""
    rows = []
    before = 0
    lines = text.split("\n")
    for index, line in enumerate(lines):
        # Only spaces part words, so split() with its other blanks would take too much.
        words = [word for word in line.split(" ") if word != ""]
        if index == MOST_ROWS or not is_row(words):
            raise BadText(index + 1)
        until = value_of(words[0])
        if not until_fits(until, before, index == len(lines) - 1):
            raise BadText(index + 1)
        rows.append((until, value_of(words[1]), words[2], words[3]))
        before = until
    return rows
