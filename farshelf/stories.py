"""Stories: what hands asked, were told and saw, in the order in which it came, and whether that can be."""

from farshelf.copying import own_copy


def story_of(world):
    return own_copy(world.story)


# (file, version, content) of a row that tells them, else None.
def sight_of(row):
    if row[0] == "saw":
        return row[2:5]
    if row[0] == "told" and row[3][0] == "file":
        return row[3][1:4]
    return None


# The list of (file, version) that a row tells to be put. request: what was asked, None where that isn't known.
def puts_of(row, request):
    if row[0] != "told" or request is None:
        return []
    told = row[3]
    if told[0] == "shut":
        return [(request[1], told[1])]
    if told[0] != "joined":
        return []
    parts = [(deed, part) for deed, part in zip(request[1], told[1]) if deed[0] == "shut" and part[0] == "put"]
    return [(deed[1], part[1]) for deed, part in parts]


class Known:
    # What the rows so far tell. asks: by hand and n (place, request); least: by file the list of (place, version,
    # hand) below whose version that hand, or each where it is None, must tell none; contents: by file and
    # version the list of (place, content).
    def __init__(self):
        self.asks = {}
        self.least = {}
        self.contents = {}


def learn(known, place, row):
    if row[0] == "ask":
        known.asks[(row[1], row[2])] = (place, row[3])
        return
    sight = sight_of(row)
    if sight is not None:
        known.least.setdefault(sight[0], []).append((place, sight[1], row[1]))
        known.contents.setdefault((sight[0], sight[1]), []).append((place, sight[2]))
    asked = known.asks.get((row[1], row[2]), (0, None))
    for file, version in puts_of(row, asked[1]):
        known.least.setdefault(file, []).append((place, version, None))


# The places of the rows with which a row can't be.
def places_against(known, place, row):
    sight = sight_of(row)
    if sight is None:
        return []
    ahead_of = place if row[0] == "saw" else known.asks.get((row[1], row[2]), (0, None))[0]
    found = []
    for other, version, hand in known.least.get(sight[0], []):
        if other < ahead_of and version > sight[1] and hand in (None, row[1]):
            found.append(other)
    contents = known.contents.get((sight[0], sight[1]), [])
    return found + [other for other, content in contents if content != sight[2]]


def story_fault(story):
    known = Known()
    for place, row in enumerate(story):
        found = places_against(known, place, row)
        if found:
            return (min(found), place)
        learn(known, place, row)
    return None
