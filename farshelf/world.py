"""The world: masters with their desks, hands, clocks, and the messages that are under way between them."""

from farshelf.clocks import within
from farshelf.copying import own_copy
from farshelf.desk import Desk, calls_due
from farshelf.errors import BadEvent, Busy, NoSession, NotAlone
from farshelf.hands import Hand
from farshelf.masters import Master


class World:
    # fallen: of each master whether it is; led: of each the last term in which it added its row "lead";
    # lead_places: of each the place of that row; asked: of each hand how many asks it told; story: its rows so far.
    def __init__(self, masters, hands, kept, held, bounds):
        self.masters = [Master(number, masters) for number in range(masters)]
        self.desks = [Desk(kept) for number in range(masters)]
        self.hands = [Hand(number, held) for number in range(hands)]
        self.clocks = [0 for number in range(masters + hands)]
        self.way = []
        self.kept = kept
        self.bounds = own_copy(bounds)
        self.fallen = [False for number in range(masters)]
        self.led = [0 for number in range(masters)]
        self.lead_places = [0 for number in range(masters)]
        self.asked = [0 for number in range(hands)]
        self.story = []


def is_place(things, number):
    return 0 <= number < len(things)


def is_awake(world, m):
    return is_place(world.masters, m) and not world.fallen[m]


def is_fallen(world, m):
    return is_place(world.masters, m) and world.fallen[m]


def clocks_can_grow(world, span, grown):
    if span < 0 or len(grown) != len(world.clocks):
        return False
    return all([growth >= 0 and within(world.bounds, span, growth) for growth in grown])


def can_be(world, event):
    word = event[0]
    if word == "pass":
        return clocks_can_grow(world, event[1], event[2])
    if word in ("rise", "send", "time", "fall"):
        return is_awake(world, event[1])
    if word == "wake":
        return is_fallen(world, event[1])
    if word in ("begin", "ask", "again"):
        return is_place(world.hands, event[1]) and is_place(world.masters, event[2])
    if word in ("carry", "copy", "lose"):
        return is_place(world.way, event[1])
    if word in ("see", "work"):
        return is_place(world.hands, event[1])
    return word == "rest"


def step(world, event):
    if not can_be(world, event):
        raise BadEvent("this can't be by now")
    word = event[0]
    if word == "pass":
        return let_pass(world, event[2])
    if word in ("rise", "send", "time", "fall", "wake"):
        return step_master(world, word, event[1])
    if word in ("begin", "ask", "again"):
        return step_asking(world, event)
    if word == "carry":
        return hear(world, world.way.pop(event[1]))
    if word == "copy":
        return hear(world, world.way[event[1]])
    if word == "lose":
        world.way.pop(event[1])
        return ("lost",)
    if word == "rest":
        return rest(world, event[1])
    if word == "see":
        return see(world, event[1], event[2])
    return work_alone(world, event[1], event[2])


def let_pass(world, grown):
    world.clocks = [reading + growth for reading, growth in zip(world.clocks, grown)]
    return ("passed",)


def reading_of_hand(world, h):
    return world.clocks[len(world.masters) + h]


def step_master(world, word, m):
    before = len(world.way)
    if word == "fall":
        let_fall(world, m)
    elif word == "wake":
        world.fallen[m] = False
    else:
        go_on(world, m, messages_of(world, word, m))
    return ("sent", len(world.way) - before)


def let_fall(world, m):
    world.masters[m].fall()
    world.desks[m] = Desk(world.kept)
    world.fallen[m] = True


def messages_of(world, word, m):
    master = world.masters[m]
    if word == "rise":
        return master.rise()
    if word == "time":
        return messages_of_row(world, m, ("time", world.clocks[m]))
    if master.role != "leads":
        return []
    return master.send() + messages_of_calls(m, calls_due(world.desks[m]))


def messages_of_row(world, m, row):
    messages = world.masters[m].add(row)
    return [] if messages is None else messages


def messages_of_calls(m, calls):
    return [("call", m, hand, file, stamp) for hand, file, stamp in calls]


def messages_of_answers(m, answers):
    return [("answer", m, hand, session, number, told) for hand, session, number, told in answers]


# What follows wherever a master did something and told these messages. Sessions end by the clock of the master
# that leads, so one that comes to lead says in a row from where on it counts.
def go_on(world, m, messages):
    master = world.masters[m]
    world.way.extend(messages)
    if master.role == "leads" and world.led[m] != master.term:
        world.led[m] = master.term
        world.way.extend(master.add(("lead", m, world.clocks[m])))
        world.lead_places[m] = len(master.log)
    do_written(world, m)


def do_written(world, m):
    master = world.masters[m]
    desk = world.desks[m]
    while desk.place < master.done:
        told = desk.do(master.log[desk.place])
        if master.role == "leads" and desk.place > world.lead_places[m]:
            world.way.extend(messages_of_answers(m, told[0]) + messages_of_calls(m, told[1]))


def step_asking(world, event):
    h = event[1]
    hand = world.hands[h]
    reading = reading_of_hand(world, h)
    try:
        if event[0] == "begin":
            message = hand.begin(reading)
        elif event[0] == "ask":
            message = hand.ask(event[3], reading)
        else:
            message = hand.again()
    except Busy:
        return ("refused", "busy")
    except NoSession:
        return ("refused", "session")
    if message is None:
        return ("refused", "none")
    if event[0] != "again":
        world.asked[h] += 1
        world.story.append(("ask", h, world.asked[h], own_copy(message[4])))
    world.way.append(("ask", h, event[2]) + message[2:])
    return ("asked",)


def hear(world, message):
    if message[0] == "answer":
        return hear_answer(world, message[2], message[3], message[4], message[5])
    if message[0] == "call":
        return hear_call(world, message[1], message[2], message[3], message[4])
    m = message[2]
    if world.fallen[m]:
        return ("astray",)
    if message[0] in ("ask", "back"):
        row = (message[0], world.clocks[m], message[1]) + message[3:]
        go_on(world, m, messages_of_row(world, m, row))
    else:
        go_on(world, m, world.masters[m].hear(message))
    return ("heard",)


def hear_answer(world, h, session, number, told):
    if not world.hands[h].answer(session, number, told, reading_of_hand(world, h)):
        return ("old",)
    world.story.append(("told", h, world.asked[h], own_copy(told)))
    return ("told", h, number, own_copy(told))


def hear_call(world, m, h, file, stamp):
    back = world.hands[h].call(file, stamp)
    world.way.append(("back", h, m) + back[2:])
    return ("heard",)


def rest(world, times):
    often = 0
    while world.way and often < times:
        hear(world, world.way.pop(0))
        often += 1
    return ("rested", often)


def see(world, h, file):
    seen = world.hands[h].seen(file, reading_of_hand(world, h))
    if seen is not None:
        world.story.append(("saw", h, file) + seen)
    return ("seen", seen)


def work_alone(world, h, deed):
    try:
        world.hands[h].work(deed, reading_of_hand(world, h))
    except NotAlone:
        return ("refused", "holds")
    return ("worked",)


def held_now(world):
    rows = []
    for h in range(len(world.hands)):
        locked = world.hands[h].locked(reading_of_hand(world, h))
        rows.extend([row + (h,) for row in locked])
    return sorted(rows)
