"""Texts of rows and of runs."""

from betweencoats.errors import BadCount, BadDeed, BadSize, BadText
from betweencoats.rests import MOST_STONES
from betweencoats.runs import MOST_DEEDS

HIGHEST = 999
DIGITS = "0123456789"


def is_number_word(word):
    """Whether a word is 0, or 1 to 3 digits of which the first is not 0."""
    if not 1 <= len(word) <= 3 or not all([sign in DIGITS for sign in word]):
        return False
    return word == "0" or word[0] != "0"


def has_word(number):
    """Whether there is a word for a number."""
    return 0 <= number <= HIGHEST


def row_text(numbers):
    """The text of some numbers."""
    if not 1 <= len(numbers) <= MOST_STONES:
        raise BadSize(len(numbers))
    for number in numbers:
        if not has_word(number):
            raise BadCount(number)
    return " ".join([str(number) for number in numbers])


def row_of(text):
    """The numbers of a text."""
    words = text.split(" ")
    for at, word in enumerate(words):
        if not is_number_word(word):
            raise BadText(at)
    if len(words) > MOST_STONES:
        raise BadText(MOST_STONES)
    return tuple([int(word) for word in words])


def run_text(run):
    """The text of a run."""
    if len(run) > MOST_DEEDS:
        raise BadSize(len(run))
    for at, deed in enumerate(run):
        if not has_word(deed[0]) or not has_word(deed[1]):
            raise BadDeed(at)
    return " ".join([f"{place}:{coat}" for place, coat in run])


def run_of(text):
    """The run of a text."""
    if text == "":
        return ()
    deeds = [word.split(":") for word in text.split(" ")]
    for at, parts in enumerate(deeds):
        if len(parts) != 2 or not all([is_number_word(part) for part in parts]):
            raise BadText(at)
    if len(deeds) > MOST_DEEDS:
        raise BadText(MOST_DEEDS)
    return tuple([(int(place), int(coat)) for place, coat in deeds])
