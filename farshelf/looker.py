"""A looker of the shelf's order: what is out of order in a table, and the shelf of one that is in order.

A table is a list of rows as rows_of tells them, in any order, entries in any order too.
"""

from farshelf.errors import NoOrder
from farshelf.shelf import CLASH, ROOT, Shelf


def times_of(values):
    times = {}
    for value in values:
        times[value] = times.get(value, 0) + 1
    return times


def values_several_times(values):
    return [value for value, times in times_of(values).items() if times > 1]


# By number the list of a folder's entries.
def folders_in(table):
    return dict([(row[1], row[2]) for row in table if row[0] == "folder"])


# By number how many entries lead to it.
def times_named(table):
    nodes = []
    for entries in folders_in(table).values():
        nodes.extend([node for name, node in entries])
    return times_of(nodes)


def faults_twice(table):
    return [("twice", number) for number in values_several_times([row[1] for row in table])]


def faults_of_root(table):
    folders = folders_in(table)
    if ROOT in folders and CLASH in folders and ("clash", CLASH) in folders[ROOT]:
        return []
    return [("root",)]


def faults_same(table):
    faults = []
    for folder, entries in folders_in(table).items():
        names = values_several_times([name for name, node in entries])
        faults.extend([("same", folder, name) for name in names])
    return faults


def faults_blind(table):
    faults = []
    rows = times_of([row[1] for row in table])
    for folder, entries in folders_in(table).items():
        faults.extend([("blind", folder, name) for name, node in entries if node not in rows])
    return faults


def faults_of_names(table):
    times = times_named(table)
    folders = [row[1] for row in table if row[0] == "folder"]
    return [("names", folder) for folder in folders if times.get(folder, 0) != (0 if folder == ROOT else 1)]


def faults_loose(table):
    times = times_named(table)
    return [("loose", row[1]) for row in table if row[0] == "file" and row[1] not in times]


# All faults of a form, in the order in which they are due; rings are looked for apart.
FINDERS = {"twice": faults_twice, "root": faults_of_root, "same": faults_same, "blind": faults_blind,
           "names": faults_of_names, "loose": faults_loose}


# By number of each folder to which an entry leads the folder that has it.
def folders_above(shelf):
    above = {}
    for folder, entries in shelf.folders.items():
        for node in entries.values():
            if node in shelf.folders:
                above[node] = folder
    return above


# A ring of a shelf where at most one entry leads to each folder: the way up from any folder then ends or comes
# to a ring. ending: the folders from which it is known to end.
def ring_in(shelf):
    above = folders_above(shelf)
    ending = {}
    for start in sorted(above):
        way = {}
        folder = start
        while folder in above and folder not in ending and folder not in way:
            way[folder] = True
            folder = above[folder]
        if folder in way:
            passed = list(way)
            ring = passed[passed.index(folder):]
            return list(reversed(ring))
        ending.update(way)
    return None


def leads_to(entries, number):
    return any([node == number for name, node in entries])


def is_ring(table, ring):
    folders = folders_in(table)
    if len(ring) == 0 or len(set(ring)) < len(ring):
        return False
    if not all([folder in folders for folder in ring]):
        return False
    following = ring[1:] + ring[:1]
    return all([leads_to(folders[folder], after) for folder, after in zip(ring, following)])


def looked(table):
    for form in FINDERS:
        faults = FINDERS[form](table)
        if faults:
            return min(faults)
    ring = ring_in(shelf_from(table))
    return None if ring is None else ("ring", ring)


def is_fault(table, fault):
    if fault[0] == "ring":
        return is_ring(table, fault[1])
    return fault in FINDERS[fault[0]](table)


# The shelf of a table's rows, in order or not, but without two rows of a number or two entries by a name.
def shelf_from(table):
    shelf = Shelf()
    shelf.folders = dict([(row[1], dict(row[2])) for row in table if row[0] == "folder"])
    shelf.files = dict([(row[1], (row[2], row[3])) for row in table if row[0] == "file"])
    shelf.greatest = max([row[1] for row in table], default=CLASH)
    return shelf


def shelf_of(table):
    fault = looked(table)
    if fault is not None:
        raise NoOrder(fault)
    return shelf_from(table)
