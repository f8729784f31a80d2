"""Books and records as texts, and read from their texts again."""

from fallingfields.books import book_error, record_error
from fallingfields.bounds import MAX_MANY, MAX_SIZE
from fallingfields.errors import BadText

FIGURES = "0123456789"


def book_text(book):
    """Return the text of book."""
    return " ".join([f"{size}/{alignment}" for size, alignment in book])


def record_text(record):
    """Return the text of record."""
    return " ".join([str(number) for number in record])


def read_book(value):
    """Return the book of which value is the text; raise BadText() if there is none."""
    book = tuple([read_kind(word) for word in text_words(value)])
    if book_error(book) is not None:
        raise BadText()
    return book


def read_record(book, value):
    """Return the record of book of which value is the text; raise BadText() if there is none."""
    record = tuple([read_number(word) for word in text_words(value)])
    if record_error(book, record) is not None:
        raise BadText()
    return record


def text_words(value):
    """Return the words of value, with one blank between two; raise BadText() if it is no string."""
    if not isinstance(value, str):
        raise BadText()
    return value.split(" ")


def read_kind(word):
    """Return the pair of integers with "/" between them that word tells; raise BadText() if it tells none."""
    size, _, alignment = word.partition("/")
    return (read_number(size), read_number(alignment))


def read_number(word):
    """Return the integer that word is in decimal; raise BadText() if it is none, or has too many figures."""
    if not is_decimal(word):
        raise BadText()
    return int(word)


def is_decimal(word):
    """Return whether word is an integer in decimal with no more figures than the greatest one of a text."""
    # int alone would also take signs, blanks, underscores and noughts ahead,
    # and refuses words of some thousand figures by an error of its own.
    if not 1 <= len(word) <= len(str(max(MAX_SIZE, MAX_MANY))):
        return False
    if word.startswith("0") and word != "0":
        return False
    return all([sign in FIGURES for sign in word])
