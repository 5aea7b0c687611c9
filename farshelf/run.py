"""A sheet is run: its world goes through the events, and each row is answered by a text."""

from farshelf.errors import BadEvent
from farshelf.sheet import read_sheet
from farshelf.shelf import rows_of
from farshelf.stories import story_fault, story_of
from farshelf.world import World, held_now, is_place, step

NO_EVENT = "no event"


def words_told(value):
    if value is None or value == "" or value == []:
        return "-"
    if isinstance(value, (list, tuple)):
        return " ".join([words_told(part) for part in value])
    return str(value)


def words_of_node(row):
    if row[0] == "file":
        return words_told(row)
    parts = ["folder", str(row[1])] + [words_told(entry) for entry in row[2]]
    return " ".join(parts)


def answer_shelf(world, m):
    if not is_place(world.desks, m):
        return NO_EVENT
    desk = world.desks[m]
    return ", ".join([words_of_node(row) for row in rows_of(desk.shelf)])


def answer_held(world):
    rows = held_now(world)
    return "-" if rows == [] else ", ".join([words_told(row) for row in rows])


def log_words(master):
    done = master.done
    size = len(master.log)
    return f"{done}/{size}"


def answer_event(world, event):
    try:
        return words_told(step(world, event))
    except BadEvent:
        return NO_EVENT


def answer_join(world, h, m):
    if not is_place(world.hands, h):
        return NO_EVENT
    hand = world.hands[h]
    return answer_event(world, ("ask", h, m, ("join", hand.deeds())))


def answer_row(world, row):
    if row[0] == "shelf":
        return answer_shelf(world, row[1])
    if row[0] == "held":
        return answer_held(world)
    if row[0] == "way":
        return str(len(world.way))
    if row[0] == "logs":
        return " ".join([log_words(master) for master in world.masters])
    if row[0] == "story":
        return words_told(story_fault(story_of(world)))
    if row[0] == "join":
        return answer_join(world, row[1], row[2])
    return answer_event(world, row)


def run(text):
    rows = read_sheet(text)
    first = rows[0]
    world = World(first[1], first[2], first[3], first[4], first[5:9])
    answers = []
    for row in rows[1:]:
        answers.append(answer_row(world, row))
    return answers
