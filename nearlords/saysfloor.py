"""A floor that is told and asked by rows of words."""
from nearlords.checks import DOOR, MOST_PLACES, place_told, word_of
from nearlords.errors import BadRow
from nearlords.floorasks import can_go_home, choices, kin, way_home, why_not
from nearlords.housetext import house_text
from nearlords.ordertext import order_text
from nearlords.runtext import run_text

# What follows each word: x for a place, p for a place or the door.
ANSWERED = {
    "up": "x", "down": "xx", "relate": "xx", "graft": "xp", "mark": "", "undo": "", "redo": "",
    "house": "", "order": "", "home": "",
}
ASKED = {"way": "", "why": "", "kin": "", "choices": "x"}


def answer(floor, row):
    """Do the deed of a row, or return what it asks for."""
    word = row.split(" ")[0]
    numbers = _numbers_of(row, ANSWERED.get(word))
    if word == "house":
        return _on_one_row(house_text(floor.house()))
    if word == "order":
        return _on_one_row(order_text(floor.order()))
    if word == "home":
        return "yes" if can_go_home(floor) else "no"
    _do(floor, word, numbers)
    return "ok"


def asked(floor, row):
    """Return what a row asks for."""
    word = row.split(" ")[0]
    numbers = _numbers_of(row, ASKED.get(word))
    if word == "way":
        return _on_one_row(run_text(way_home(floor)))
    if word == "kin":
        return str(kin(floor))
    entries = why_not(floor) if word == "why" else choices(floor, numbers[0])
    return " ".join([word_of(place) for place in entries])


def _numbers_of(row, form):
    """Return the numbers of a row of a form, or refuse it; no form is None."""
    words = row.split(" ")[1:]
    if form is None or len(words) != len(form):
        raise BadRow(row)
    numbers = []
    for word, sign in zip(words, form):
        number = place_told(word, list(range(DOOR if sign == "p" else 0, MOST_PLACES)))
        if number is None:
            raise BadRow(row)
        numbers.append(number)
    return numbers


def _do(floor, word, numbers):
    """Do the deed of a word, or undo or redo one."""
    if word == "up":
        floor.up(numbers[0])
    elif word == "down":
        floor.down(numbers[0], numbers[1])
    elif word == "relate":
        floor.relate(numbers[0], numbers[1])
    elif word == "graft":
        floor.graft(numbers[0], numbers[1])
    elif word == "mark":
        floor.mark()
    elif word == "undo":
        floor.undo()
    else:
        floor.redo()


def _on_one_row(text):
    """Return a text with its rows on one row."""
    return text.replace("\n", ";")
