"""Sheets: texts of rows, which are the events of a world and questions about it."""

from farshelf.errors import NoRow
from farshelf.words import all_among, is_content, is_name

FIGURES = "0123456789"
MOST_FIGURES = 12
MOST_MASTERS = 7
MOST_HANDS = 10

# What stands behind the first word of each row, request and deed. Rows with a request, a deed or a list have
# readers of their own.
ROWS = {
    "world": ("number", "number", "number", "number", "number", "number", "number", "number"),
    "rise": ("number",), "send": ("number",), "time": ("number",), "fall": ("number",), "wake": ("number",),
    "begin": ("number", "number"), "again": ("number", "number"), "join": ("number", "number"),
    "carry": ("number",), "copy": ("number",), "lose": ("number",), "rest": ("number",),
    "see": ("number", "number"),
    "shelf": ("number",), "held": (), "way": (), "story": (), "logs": (),
}
REQUESTS = {
    "look": (), "make": ("path", "content"), "fold": ("path",), "link": ("path", "number"), "drop": ("path",),
    "move": ("path", "path"), "open": ("path",), "see": ("number",), "shut": ("number", "number", "content"),
    "lock": ("number", "sort", "number", "number"), "free": ("number", "number", "number"),
}
DEEDS = {"shut": ("number", "number", "content"), "make": ("number", "name", "content")}


# In this file what a word or a row is read as is None where it isn't so.
def number_from(word):
    if not 1 <= len(word) <= MOST_FIGURES or not all_among(word, FIGURES):
        return None
    if word.startswith("0") and word != "0":
        return None
    return int(word)


def content_from(word):
    if word == "-":
        return ""
    return word if is_content(word) else None


def part_from(kind, word):
    if kind == "number":
        return number_from(word)
    if kind == "content":
        return content_from(word)
    if kind == "path":
        return word if word.startswith("/") else None
    if kind == "name":
        return word if is_name(word) else None
    return word if word in ("read", "write") else None


def parts_from(kinds, words):
    if len(words) != len(kinds):
        return None
    parts = [part_from(kind, word) for kind, word in zip(kinds, words)]
    return None if None in parts else tuple(parts)


# The form in forms by which the first word is known.
def by_form(forms, words):
    if words == [] or words[0] not in forms:
        return None
    parts = parts_from(forms[words[0]], words[1:])
    return None if parts is None else (words[0],) + parts


def request_from(words):
    request = by_form(dict(REQUESTS), words)
    if request is not None and request[0] in ("lock", "free") and request[-2] >= request[-1]:
        return None
    return request


def ask_from(words):
    numbers = parts_from(("number", "number"), words[1:3])
    request = request_from(words[3:])
    if numbers is None or request is None:
        return None
    return ("ask",) + numbers + (request,)


def work_from(words):
    numbers = parts_from(("number",), words[1:2])
    deed = by_form(dict(DEEDS), words[2:])
    if numbers is None or deed is None:
        return None
    return ("work",) + numbers + (deed,)


def pass_from(words):
    numbers = [number_from(word) for word in words[1:]]
    if len(numbers) < 2 or None in numbers:
        return None
    return ("pass", numbers[0], numbers[1:])


def is_world(row):
    masters = row[1]
    hands = row[2]
    if not (1 <= masters <= MOST_MASTERS and 1 <= hands <= MOST_HANDS and row[3] >= 1 and row[4] >= 1):
        return False
    return 0 < row[5] <= row[6] and 0 < row[8] <= row[7]


def row_from(words):
    if words[0] == "ask":
        return ask_from(words)
    if words[0] == "work":
        return work_from(words)
    if words[0] == "pass":
        return pass_from(words)
    row = by_form(dict(ROWS), words)
    if row is not None and row[0] == "world" and not is_world(row):
        return None
    return row


# Parted by the blank alone, as Python's own split takes tabs and their like for blanks too.
def words_of(line):
    return [word for word in line.split(" ") if word != ""]


def read_sheet(text):
    rows = []
    for number, line in enumerate(text.split("\n")):
        words = words_of(line)
        if words == []:
            continue
        row = row_from(words)
        if row is None or (row[0] == "world") != (rows == []):
            raise NoRow(number)
        rows.append(row)
    if rows == []:
        raise NoRow(0)
    return rows
