"""Webs and books as texts."""

from watchedways.books import Book, check_book
from watchedways.errors import BadText, BadWeb
from watchedways.lengths import Lengths
from watchedways.making import MOST_WIDTH, widths
from watchedways.reckonings import Reckoning
from watchedways.webs import Web
from watchedways.words import in_order, is_letter, is_name

MOST_DIGITS = 200
# The least number with too many digits.
TOO_LONG = 10 ** 50 * 10 ** 50 * 10 ** 50 * 10 ** 50


def write_web(web):
    """The web in rows: what it reckons with, the places, the roads."""
    if not isinstance(web, Web):
        raise BadWeb(web)
    head = head_of_reckoning(web.reckoning)
    if head is None or not all([worth < TOO_LONG for _, _, _, worth in web.roads]):
        raise BadWeb(web)
    places = [f"place {place}" for place in web.places]
    roads = [f"road {one} {letter} {other} {worth}" for one, letter, other, worth in web.roads]
    return "\n".join([head, *places, *roads])


def head_of_reckoning(reckoning):
    """The first row for a web of the reckoning, or None if it is not written."""
    if isinstance(reckoning, Lengths):
        return "lengths"
    if not isinstance(reckoning, Reckoning):
        return None
    most = len(reckoning.joins) - 1
    if reckoning != widths(most):
        return None
    return "yes_no" if most == 1 else f"widths {most}"


def read_web(text):
    """The web that is written so."""
    if not isinstance(text, str):
        raise BadText(-1)
    rows = text.split("\n")
    reckoning = reckoning_of_head(rows[0])
    if reckoning is None:
        raise BadText(0)
    places, roads = [], []
    for at, row in enumerate(rows[1:], start=1):
        words = row.split(" ")
        if is_place_row(words) and not roads:
            places.append(words[1])
        elif is_road_row(words):
            roads.append((words[1], words[2], words[3], int(words[4])))
        else:
            raise BadText(at)
    return Web(reckoning, places, roads)


def reckoning_of_head(row):
    """The reckoning that the first row tells, or None."""
    if row == "lengths":
        return Lengths()
    if row == "yes_no":
        return widths(1)
    for most in range(1, MOST_WIDTH + 1):
        if row == f"widths {most}":
            return widths(most)
    return None


def is_place_row(words):
    """Whether these words tell a place."""
    return len(words) == 2 and words[0] == "place" and is_name(words[1])


def is_road_row(words):
    """Whether these words tell a road."""
    if len(words) != 5 or words[0] != "road" or not is_digits(words[4]):
        return False
    return is_name(words[1]) and is_letter(words[2]) and is_name(words[3])


def is_digits(text):
    """Whether it is a number of at most 200 digits without a needless 0."""
    if not 1 <= len(text) <= MOST_DIGITS or not all([sign in "0123456789" for sign in text]):
        return False
    return text == "0" or text[0] != "0"


def write_book(book):
    """The watches of the book in order, each in a row."""
    check_book(book)
    return "\n".join(in_order(book.watches))


def read_book(text):
    """The book that is written so; the empty text is the one without watches."""
    if not isinstance(text, str):
        raise BadText(-1)
    return Book(text.split("\n") if text else [])
