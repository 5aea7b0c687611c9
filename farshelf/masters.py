"""Masters: several keep one list of rows, of which what most of them have stays, whoever falls."""

from farshelf.copying import is_fixed, own_copy


class Master:
    # voices: by master (of, rows) of its voice in this term; sizes: by master how many rows it told to have in
    # this term; fixed: whether nobody can change a row of the log, so that its rows are told without copies.
    def __init__(self, number, many):
        self.number = number
        self.many = many
        self.term = 0
        self.of = 0
        self.log = []
        self.done = 0
        self.role = "hears"
        self.voices = {}
        self.sizes = {}
        self.fixed = True

    def rise(self):
        self.term = next_term(self)
        self.role = "stands"
        self.voices = {self.number: (self.of, tuple(self.log))}
        lead_by_voices(self)
        return [("stand", self.number, other, self.term) for other in others(self)]

    def add(self, row):
        if self.role != "leads":
            return None
        take_behind(self, (row,))
        count_done(self)
        return self.send()

    def send(self):
        if self.role != "leads":
            return []
        return [("keep", self.number, other, self.term, rows_told(self), self.done) for other in others(self)]

    def fall(self):
        self.role = "hears"
        self.done = 0
        return []

    def hear(self, message):
        if message[0] == "stand":
            return hear_stand(self, message[1], message[3])
        if message[0] == "voice":
            return hear_voice(self, message[1], message[3], message[4], message[5])
        if message[0] == "keep":
            return hear_keep(self, message[1], message[3], message[4], message[5])
        return hear_kept(self, message[1], message[3], message[4])


def others(master):
    return [number for number in range(master.many) if number != master.number]


# Masters share out the terms by their rests, so that no two ever stand in one.
def next_term(master):
    least = master.term + 1
    return least + (master.number - least) % master.many


def rows_told(master):
    rows = tuple(master.log)
    return rows if master.fixed else own_copy(rows)


def take_behind(master, rows):
    fixed = is_fixed(rows)
    master.log = master.log + list(rows if fixed else own_copy(rows))
    master.fixed = master.fixed and fixed


# Where the log only grows what it has is not copied anew, as each message has the whole of it.
def take_rows(master, rows):
    size = len(master.log)
    if rows[:size] != tuple(master.log):
        size = 0
        master.log = []
        master.fixed = True
    take_behind(master, rows[size:])


def is_most(master, many):
    return 2 * many > master.many


def rank_of_voice(voice):
    return (voice[0], len(voice[1]))


def lead_by_voices(master):
    if not is_most(master, len(master.voices)):
        return
    greatest = max(list(master.voices.values()), key=rank_of_voice)
    take_rows(master, greatest[1])
    master.of = master.term
    master.role = "leads"
    master.sizes = {}


def count_done(master):
    sizes = [master.sizes.get(other, 0) for other in others(master)] + [len(master.log)]
    common = [size for size in sizes if is_most(master, len([other for other in sizes if other >= size]))]
    master.done = max([master.done] + common)


def hear_stand(master, sender, term):
    if term <= master.term:
        return []
    master.term = term
    master.role = "hears"
    return [("voice", master.number, sender, term, master.of, rows_told(master))]


def hear_voice(master, sender, term, of, rows):
    if master.role == "stands" and term == master.term:
        master.voices[sender] = (of, own_copy(rows))
        lead_by_voices(master)
    return []


def hear_keep(master, sender, term, rows, done):
    if term < master.term:
        return []
    master.term = term
    master.role = "hears"
    if master.of < term or len(rows) > len(master.log):
        take_rows(master, rows)
        master.of = term
    master.done = max(master.done, min(done, len(master.log)))
    return [("kept", master.number, sender, term, len(master.log))]


def hear_kept(master, sender, term, size):
    if master.role == "leads" and term == master.term:
        master.sizes[sender] = max(size, master.sizes.get(sender, 0))
        count_done(master)
    return []


def rank_of_log(master):
    return (master.of, len(master.log))


def next_log(masters, some):
    greatest = max([masters[place] for place in some], key=rank_of_log)
    return own_copy(greatest.log)
