"""Plain readers of texts, made from the words of the document, and texts with something wrong in them.

A reader returns what a text tells, or the number of the row that is bad.
"""
import re

from tests.base import climbs_out, is_transitive

NUMBER = "(?:0|[1-9][0-9]{0,9})"
PLACE = "(?:[0-9]|1[0-5])"

ODD_WORDS = ("", "-", "--", "-1", "+1", "-0", "01", "00", "0x1", "1_0", "\u0661", "\u00b2", "\uff11", "16", "17", "0",
             "1", "2", "3", "15", "x", "1.0", "up", "places", "9" * 5000, "1000000000", "1000000001", "9999999999",
             "10000000000", "\u00a0", "None", "True")
ODD_ROWS = ("", " ", "0", "1 0", "- 0", "0 -", "3", "up 1", "-", "places 3", "\r")


def spoilt_texts(text):
    """Return texts that have one thing changed in a text; a few of them may be right all the same."""
    rows = text.split("\n")
    found = ["", "\n", " ", text + "\n", "\n" + text, text + " ", " " + text, text + "\n\n", text + "\r", text + "\x0b"]
    found += [text.replace("\n", "\r\n"), text.replace("\n", ";"), text.replace("\n", " "), text.replace(" ", "  "),
              text.replace(" ", "\t"), text.replace("\n", "\n\n"), text.upper(), text + "\n" + text]
    for k, row in enumerate(rows):
        before, after = rows[:k], rows[k + 1:]
        others = [[], [row, row], ["", row], [row, ""], [row + " "], [" " + row], [row.replace(" ", "  ", 1)]]
        others += [[odd] for odd in ODD_ROWS] + [[odd, row] for odd in ODD_ROWS] + [[row, odd] for odd in ODD_ROWS]
        others += [[" ".join(words)] for words in spoilt_words(row.split(" "))]
        found += ["\n".join(before + other + after) for other in others]
        found += ["\n".join(before + after + [row]), "\n".join([row] + before + after), "\n".join(rows[:k])]
    return found


def spoilt_words(words):
    """Return rows of words with one word changed, left out, put in, doubled or moved."""
    found = [words + [odd] for odd in ODD_WORDS]
    for k, word in enumerate(words):
        before, after = words[:k], words[k + 1:]
        found += [before + [odd] + after for odd in ODD_WORDS] + [before + [odd, word] + after for odd in ODD_WORDS]
        found += [before + [word, word] + after, before + after, before + after + [word], [word] + before + after]
        found += [before + ["0" + word] + after, before + [word + "0"] + after, before + ["+" + word] + after]
    return found


def headed(rows, word):
    """Return the number of places that row 0 tells, or None."""
    good = re.fullmatch(f"{word} ([1-9]|1[0-6])", rows[0])
    return int(good[1]) if good else None


def first_bad(rows, first, many, is_good):
    """Return the index of the first bad row, one that is missing or too many included, or None."""
    bad = [k for k in range(first, first + many) if k >= len(rows) or not is_good(rows[k], k - first)]
    bad += range(first + many, len(rows))
    return min(bad, default=None)


def ascending(numbers):
    """Tell whether numbers strictly ascend."""
    return list(numbers) == sorted(set(numbers))


def read_order(text):
    """Return the number of places and the set of the pairs, or the bad row."""
    rows = text.split("\n")
    n = headed(rows, "places")
    if n is None:
        return 0

    def is_good(row, y):
        if not re.fullmatch(f"{PLACE}( {PLACE})*", row):
            return False
        head, *lesser = map(int, row.split(" "))
        return head == y and y not in lesser and ascending(lesser) and all(x < n for x in lesser)

    bad = first_bad(rows, 1, n, is_good)
    if bad is not None:
        return bad
    pairs = {(int(x), int(row.split(" ")[0])) for row in rows[1:] for x in row.split(" ")[1:]}
    return (n, pairs) if is_transitive(pairs) else len(rows)


def read_house(text):
    """Return the house, or the bad row."""
    rows = text.split("\n")
    n = min(16, len(rows))

    def is_good(row, x):
        good = re.fullmatch(f"({PLACE}) (-|{PLACE})", row)
        return bool(good) and int(good[1]) == x and (good[2] == "-" or int(good[2]) < n and int(good[2]) != x)

    bad = first_bad(rows, 0, n, is_good)
    if bad is not None:
        return bad
    house = tuple(-1 if row.endswith("-") else int(row.split(" ")[1]) for row in rows)
    return house if climbs_out(house) else len(rows)


def read_table(text):
    """Return the table, or the bad row."""
    rows = text.split("\n")
    n = headed(rows, "table")
    if n is None:
        return 0

    def is_good(row, _):
        return bool(re.fullmatch(f"{NUMBER}( {NUMBER}){{{n}}}", row)) and all(int(w) <= 10 ** 9 for w in row.split(" "))

    bad = first_bad(rows, 1, n, is_good)
    return tuple(tuple(map(int, row.split(" "))) for row in rows[1:]) if bad is None else bad


def read_box(text, box):
    """Return the rows of a box within a box of a class, or the bad row."""
    rows = text.split("\n")
    if headed(rows, "box") != len(box.rows):
        return 0

    def numbers(row):
        return tuple(-1 if word == "-" else int(word) for word in row.split(" "))

    def is_good(row, x):
        good = re.fullmatch(f"(-|{PLACE})( {PLACE})*", row)
        return bool(good) and ascending(numbers(row)) and set(numbers(row)) <= set(box.rows[x])

    bad = first_bad(rows, 1, len(box.rows), is_good)
    return tuple(map(numbers, rows[1:])) if bad is None else bad


def read_run(text):
    """Return the run, or the bad row."""
    rows = text.split("\n") if text != "" else []
    bad = first_bad(rows, 0, len(rows), lambda row, _: re.fullmatch(f"up {PLACE}|down {PLACE} {PLACE}", row))
    if bad is not None:
        return bad
    return tuple((words[0], *map(int, words[1:])) for words in (row.split(" ") for row in rows))
