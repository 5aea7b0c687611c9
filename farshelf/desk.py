"""The desk: it does the written rows in order, and tells answers to hands and calls for what they keep."""

from farshelf.copying import own_copy
from farshelf.errors import Ring
from farshelf.joining import files_shut, joined
from farshelf.locks import Locks
from farshelf.paths import done_by_paths
from farshelf.shelf import Shelf, done, is_node, node_at, refusal, row_of
from farshelf.words import is_path


class Guest:
    # The last session that a hand began. last: the ask that was taken up last; told: its answer, None without one.
    def __init__(self, session, end):
        self.session = session
        self.end = end
        self.lives = True
        self.last = 0
        self.told = ("begun",)


class Desk:
    # guests: by hand; stamps: of each keep, by (hand, file); waiting: (hand, place, request) of each
    # shut or join that waits, place that of the row that took it up, the eldest first.
    def __init__(self, span):
        self.span = span
        self.shelf = Shelf()
        self.locks = Locks()
        self.place = 0
        self.guests = {}
        self.stamps = {}
        self.waiting = []

    def do(self, row):
        self.place += 1
        answers = []
        if row[0] == "lead":
            lengthen_all(self, row[2])
        else:
            answers = end_by_time(self, row[1])
        if row[0] == "ask":
            answers.extend(answers_to_ask(self, row[1], row[2], row[3], row[4], row[5]))
        if row[0] == "back":
            give_back(self, row[2], row[3], row[4], row[5])
        answers.extend(do_waiting(self))
        own = [ask for ask in self.waiting if ask[1] == self.place]
        return (answers, keeps_awaited(self, own))


def living(desk):
    return [hand for hand in sorted(desk.guests) if desk.guests[hand].lives]


def lengthen_all(desk, time):
    for hand in living(desk):
        guest = desk.guests[hand]
        guest.end = time + desk.span


# The hands whose wishes are held by it are told.
def end_session(desk, hand):
    guest = desk.guests[hand]
    guest.lives = False
    desk.stamps = dict([(keep, stamp) for keep, stamp in desk.stamps.items() if keep[0] != hand])
    desk.waiting = [ask for ask in desk.waiting if ask[0] != hand]
    return desk.locks.leave(hand)


def end_by_time(desk, time):
    answers = []
    over = [hand for hand in living(desk) if desk.guests[hand].end <= time]
    for hand in over:
        answers.extend(answers_held(desk, end_session(desk, hand)))
    return answers


# Told is a copy, as the answer may be asked for again.
def last_answer(desk, hand):
    guest = desk.guests[hand]
    return (hand, guest.session, guest.last, own_copy(guest.told))


def answer_hand(desk, hand, told):
    guest = desk.guests[hand]
    guest.told = told
    return last_answer(desk, hand)


def answers_held(desk, hands):
    answers = []
    for hand in hands:
        answers.append(answer_hand(desk, hand, ("held",)))
    return answers


def answers_to_ask(desk, time, hand, session, number, request):
    greatest = desk.guests[hand].session if hand in desk.guests else 0
    if session > greatest and number == 0:
        return begin_session(desk, time, hand, session)
    if session != greatest or hand not in living(desk):
        return [(hand, session, number, ("ended",))]
    guest = desk.guests[hand]
    guest.end = time + desk.span
    if guest.told is None:
        return []
    if number == guest.last:
        return [last_answer(desk, hand)]
    if number == guest.last + 1:
        guest.last = number
        guest.told = None
        return answers_to_request(desk, hand, request)
    return []


def begin_session(desk, time, hand, session):
    hands = end_session(desk, hand) if hand in living(desk) else []
    desk.guests[hand] = Guest(session, time + desk.span)
    return [last_answer(desk, hand)] + answers_held(desk, hands)


def answers_to_request(desk, hand, request):
    if request[0] == "lock":
        return answers_to_lock(desk, hand, request[1], request[2], request[3], request[4])
    if request[0] == "free":
        hands = desk.locks.free(hand, request[1], request[2], request[3])
        return [answer_hand(desk, hand, ("ok",))] + answers_held(desk, hands)
    answer = answer_now(desk, hand, request)
    if answer is None:
        desk.waiting.append((hand, desk.place, own_copy(request)))
        return []
    return [answer_hand(desk, hand, answer)]


def answers_to_lock(desk, hand, file, sort, low, high):
    if file not in desk.shelf.files:
        word = "kind" if is_node(desk.shelf, file) else "gone"
        return [answer_hand(desk, hand, ("refused", word))]
    try:
        taken = desk.locks.take(hand, file, sort, low, high)
    except Ring:
        return [answer_hand(desk, hand, ("refused", "ring"))]
    if taken[0] == "waits":
        return []
    return [answer_hand(desk, hand, ("held",))] + answers_held(desk, taken[1])


# None of one that is to wait.
def answer_now(desk, hand, request):
    if request[0] == "look":
        return ("ok",)
    if request[0] == "open":
        return answer_to_path(desk, hand, request[1])
    if request[0] == "see":
        return answer_to_number(desk, hand, request[1])
    if request[0] == "join":
        return None
    if request[0] == "shut":
        word = refusal(desk.shelf, put_of(request))
        return None if word is None else ("refused", word)
    return done_by_paths(desk.shelf, request)


def answer_to_path(desk, hand, path):
    if not is_path(path):
        return ("refused", "name")
    number = node_at(desk.shelf, path)
    if number is None:
        return ("refused", "lacks")
    return shown(desk, hand, number)


def answer_to_number(desk, hand, number):
    if not is_node(desk.shelf, number):
        return ("refused", "gone")
    return shown(desk, hand, number)


def shown(desk, hand, number):
    row = row_of(desk.shelf, number)
    if row[0] == "folder":
        return ("folder", number, [name for name, node in row[2]])
    return row + (new_stamp(desk, hand, number),)


# None is given while an ask waits for the file's keeps, or it might wait for ever new ones.
def new_stamp(desk, hand, file):
    if any([file in files_named(ask[2]) for ask in desk.waiting]):
        return 0
    desk.stamps[(hand, file)] = desk.place
    return desk.place


def files_named(request):
    if request[0] == "shut":
        return [request[1]]
    return files_shut(request[1])


# The keeps of other hands for which these asks wait.
def keeps_awaited(desk, asks):
    found = []
    for hand, place, request in asks:
        for file in files_named(request):
            others = [other for other in living(desk) if other != hand and (other, file) in desk.stamps]
            found.extend([(other, file, desk.stamps[(other, file)]) for other in others])
    return sorted(set(found))


def do_waiting(desk):
    answers = []
    for ask in list(desk.waiting):
        if keeps_awaited(desk, [ask]) == []:
            desk.waiting.remove(ask)
            answers.append(answer_hand(desk, ask[0], answer_waited(desk, ask[0], ask[2])))
    return answers


def answer_waited(desk, hand, request):
    if request[0] == "join":
        return joined(desk.shelf, request[1])
    answer = done(desk.shelf, put_of(request))
    if answer[0] == "refused":
        return answer
    return ("shut", answer[1], new_stamp(desk, hand, request[1]))


def put_of(shut):
    return ("put", shut[1], shut[2], shut[3])


def give_back(desk, hand, session, file, stamp):
    if hand not in living(desk) or desk.guests[hand].session != session:
        return
    if desk.stamps.get((hand, file)) == stamp:
        desk.stamps.pop((hand, file))


def calls_due(desk):
    return keeps_awaited(desk, desk.waiting)


def sessions(desk):
    return [(hand, desk.guests[hand].session, desk.guests[hand].end) for hand in living(desk)]


def keeps(desk):
    return sorted([(keep[0], keep[1], stamp) for keep, stamp in desk.stamps.items()])
