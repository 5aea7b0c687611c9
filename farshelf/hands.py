"""Hands: each has one session and one ask at a time, keeps copies of files, and works on alone when cut off."""

from farshelf.copying import own_copy
from farshelf.errors import Busy, NoSession, NotAlone
from farshelf.joining import files_shut
from farshelf.locks import Locks, hold, let_go


class Hand:
    # session: the last begun; lives: whether there is one; last: the number of the last ask; request: that of the
    # ask without an answer, None where there is none; first: the reading at its first telling; end: the lease's,
    # None without one; locks: what this hand holds; files: by file (version, content, stamp) of the copy, stamp 0
    # where it has none; called: by file the greatest call heard; alone: the deeds.
    def __init__(self, number, held):
        self.number = number
        self.held = held
        self.session = 0
        self.lives = False
        self.last = 0
        self.request = None
        self.first = 0
        self.end = None
        self.locks = Locks()
        self.files = {}
        self.called = {}
        self.alone = []

    def begin(self, reading):
        self.session += 1
        self.lives = True
        lose_all(self)
        return tell_ask(self, 0, ("begin",), reading)

    def ask(self, request, reading):
        if self.request is not None:
            raise Busy("the last ask has no answer yet")
        if not self.lives:
            raise NoSession("there is no session")
        let_go_by_asking(self, request)
        return tell_ask(self, self.last + 1, request, reading)

    def again(self):
        if self.request is None:
            return None
        return ("ask", self.number, self.session, self.last, own_copy(self.request))

    def answer(self, session, number, told, reading):
        if self.request is None or session != self.session or number != self.last:
            return False
        request = self.request
        self.request = None
        if told[0] == "ended":
            self.lives = False
            lose_all(self)
            return True
        end = self.first + self.held
        self.end = end if self.end is None else max(end, self.end)
        take_told(self, request, told)
        return True

    def call(self, file, stamp):
        self.called[file] = max(stamp, self.called.get(file, 0))
        if file in self.files and self.files[file][2] <= stamp:
            lose_stamp(self, file)
        return ("back", self.number, self.session, file, stamp)

    def holds(self, reading):
        return self.end is not None and reading < self.end

    def seen(self, file, reading):
        if not self.holds(reading) or file not in self.files or self.files[file][2] == 0:
            return None
        return (self.files[file][0], self.files[file][1])

    def locked(self, reading):
        if not self.holds(reading):
            return []
        found = []
        for file, rows in self.locks.stretches.items():
            found.extend([(file, low, high, sort) for low, high, sort, hand in rows])
        return sorted(found)

    def copies(self):
        return sorted([(file,) + copied for file, copied in self.files.items()])

    def work(self, deed, reading):
        if self.holds(reading):
            raise NotAlone("the hand holds a lease")
        self.alone.append(own_copy(deed))
        if deed[0] == "shut" and deed[1] in self.files:
            self.files[deed[1]] = (deed[2] + 1, deed[3], 0)

    def deeds(self):
        return own_copy(tuple(self.alone))


def lose_stamp(hand, file):
    if file in hand.files:
        hand.files[file] = (hand.files[file][0], hand.files[file][1], 0)


def lose_all(hand):
    hand.end = None
    hand.locks = Locks()
    for file in sorted(hand.files):
        lose_stamp(hand, file)


def tell_ask(hand, number, request, reading):
    hand.last = number
    hand.request = own_copy(request)
    hand.first = reading
    return hand.again()


# From the asking on, as the master may give it to others before the answer is here.
def let_go_by_asking(hand, request):
    if request[0] == "free":
        let_go(hand.locks, hand.number, request[1], request[2], request[3])
    if request[0] == "lock" and request[2] == "read":
        hold_to_read(hand, request[1], request[3], request[4])
    if request[0] == "join":
        for file in files_shut(request[1]):
            lose_stamp(hand, file)


# What is held there, to write too, is held to read alone.
def hold_to_read(hand, file, low, high):
    rows = list(hand.locks.stretches.get(file, []))
    for row in rows:
        hold(hand.locks, file, (max(row[0], low), min(row[1], high), "read", hand.number))


def take_told(hand, request, told):
    if told[0] == "file":
        keep_copy(hand, told[1], told[2], told[3], told[4])
    if told[0] == "shut":
        keep_copy(hand, request[1], told[1], request[3], told[2])
    if told[0] == "held":
        hold(hand.locks, request[1], (request[3], request[4], request[2], hand.number))
    if told[0] == "joined":
        hand.alone = hand.alone[len(told[1]):]


# A call may have come ahead of the answer whose stamp it calls back.
def keep_copy(hand, file, version, content, stamp):
    called = hand.called.get(file, 0)
    hand.files[file] = (version, content, stamp if stamp > called else 0)
