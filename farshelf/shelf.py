"""The shelf: a tree of folders and files, and the deeds that change it.

Nodes have numbers: 0 is the root, 1 the folder by the name clash in it.
"""

from farshelf.words import is_content, is_name, is_path

ROOT = 0
CLASH = 1

# At which places each deed has its names, its content, the folders W and U, and the file N.
NAMES = {"make": (2,), "fold": (2,), "link": (2,), "drop": (2,), "move": (2, 4), "put": ()}
CONTENTS = {"make": (3,), "fold": (), "link": (), "drop": (), "move": (), "put": (3,)}
FOLDERS = {"make": (1,), "fold": (1,), "link": (1,), "drop": (1,), "move": (1, 3), "put": ()}
FILES = {"make": (), "fold": (), "link": (3,), "drop": (), "move": (), "put": (1,)}


class Shelf:
    # folders: by number the dict of a folder's entries; files: by number (version, content).
    def __init__(self):
        self.folders = {ROOT: {"clash": CLASH}, CLASH: {}}
        self.files = {}
        self.greatest = CLASH


def like(shelf):
    other = Shelf()
    other.folders = dict([(number, dict(entries)) for number, entries in shelf.folders.items()])
    other.files = dict(shelf.files)
    other.greatest = shelf.greatest
    return other


def is_node(shelf, number):
    return number in shelf.folders or number in shelf.files


def row_of(shelf, number):
    if number in shelf.folders:
        return ("folder", number, sorted(shelf.folders[number].items()))
    return ("file", number) + shelf.files[number]


def rows_of(shelf):
    return [row_of(shelf, number) for number in sorted(list(shelf.folders) + list(shelf.files))]


def node_at(shelf, path):
    if not is_path(path):
        return None
    node = ROOT
    if path == "/":
        return node
    for name in path[1:].split("/"):
        entries = shelf.folders.get(node, {})
        if name not in entries:
            return None
        node = entries[name]
    return node


# By the number of each folder from start on, start too, the path that leads on to it from there.
# Walked by a list, as folders may lie deeper than calls may go.
def ways_from(shelf, start):
    ways = {start: ""}
    ahead = [start]
    while ahead:
        folder = ahead.pop()
        for name, node in shelf.folders[folder].items():
            if node in shelf.folders:
                ways[node] = ways[folder] + "/" + name
                ahead.append(node)
    return ways


def names_of(shelf, number):
    found = []
    for folder, entries in shelf.folders.items():
        found.extend([(folder, name) for name, node in entries.items() if node == number])
    return found


def paths_of(shelf, number):
    if number == ROOT:
        return ["/"]
    ways = ways_from(shelf, ROOT)
    return sorted([ways[folder] + "/" + name for folder, name in names_of(shelf, number)])


def parts_at(deed, places):
    return [deed[place] for place in places]


# The words that a deed's own parts make due, whatever entries there are.
def refusal_of_parts(shelf, deed):
    names = parts_at(deed, NAMES[deed[0]])
    contents = parts_at(deed, CONTENTS[deed[0]])
    folders = parts_at(deed, FOLDERS[deed[0]])
    files = parts_at(deed, FILES[deed[0]])
    if not all([is_name(name) for name in names] + [is_content(content) for content in contents]):
        return "name"
    if not all([is_node(shelf, number) for number in folders + files]):
        return "gone"
    if not all([number in shelf.folders for number in folders] + [number in shelf.files for number in files]):
        return "kind"
    return None


def refusal_of_drop(shelf, folder, name):
    entries = shelf.folders[folder]
    if name not in entries:
        return "lacks"
    if entries[name] == CLASH:
        return "kept"
    if shelf.folders.get(entries[name], {}) != {}:
        return "full"
    return None


def refusal_of_move(shelf, folder, name, into, new_name):
    entries = shelf.folders[folder]
    if name not in entries:
        return "lacks"
    if new_name in shelf.folders[into]:
        return "there"
    node = entries[name]
    if node == CLASH:
        return "kept"
    if node in shelf.folders and into in ways_from(shelf, node):
        return "beneath"
    return None


# The first word that is due of a deed, None where it can be done.
def refusal(shelf, deed):
    word = refusal_of_parts(shelf, deed)
    if word is not None:
        return word
    if deed[0] == "put":
        return "stale" if deed[2] != shelf.files[deed[1]][0] else None
    if deed[0] == "drop":
        return refusal_of_drop(shelf, deed[1], deed[2])
    if deed[0] == "move":
        return refusal_of_move(shelf, deed[1], deed[2], deed[3], deed[4])
    return "there" if deed[2] in shelf.folders[deed[1]] else None


def new_number(shelf):
    shelf.greatest += 1
    return shelf.greatest


def make_file(shelf, folder, name, content):
    number = new_number(shelf)
    shelf.files[number] = (0, content)
    shelf.folders[folder][name] = number
    return number


def make_folder(shelf, folder, name):
    number = new_number(shelf)
    shelf.folders[number] = {}
    shelf.folders[folder][name] = number
    return number


def put_content(shelf, number, content):
    version = shelf.files[number][0] + 1
    shelf.files[number] = (version, content)
    return version


def drop_entry(shelf, folder, name):
    number = shelf.folders[folder].pop(name)
    if number in shelf.folders:
        shelf.folders.pop(number)
    elif names_of(shelf, number) == []:
        shelf.files.pop(number)


def done(shelf, deed):
    word = refusal(shelf, deed)
    if word is not None:
        return ("refused", word)
    if deed[0] == "make":
        return ("made", make_file(shelf, deed[1], deed[2], deed[3]))
    if deed[0] == "fold":
        return ("made", make_folder(shelf, deed[1], deed[2]))
    if deed[0] == "put":
        return ("put", put_content(shelf, deed[1], deed[3]))
    if deed[0] == "link":
        shelf.folders[deed[1]][deed[2]] = deed[3]
    elif deed[0] == "drop":
        drop_entry(shelf, deed[1], deed[2])
    else:
        shelf.folders[deed[3]][deed[4]] = shelf.folders[deed[1]].pop(deed[2])
    return ("ok",)
