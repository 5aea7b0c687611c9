"""Mending: a table that is out of order is put in order, with all its nodes kept."""

from farshelf.clash import clash_name
from farshelf.errors import NoMend
from farshelf.looker import looked, ring_in, shelf_from
from farshelf.shelf import CLASH, ROOT, is_node, names_of, rows_of


# entries: pairs of a folder and a name in it.
def leave_out(shelf, entries):
    for folder, name in entries:
        shelf.folders[folder].pop(name)


def leads_astray(shelf, node):
    return node == ROOT or not is_node(shelf, node)


def leave_out_astray(shelf):
    for folder in sorted(shelf.folders):
        names = [name for name, node in shelf.folders[folder].items() if leads_astray(shelf, node)]
        leave_out(shelf, [(folder, name) for name in names])


def leave_out_further_names(shelf):
    for folder in sorted(shelf.folders):
        names = sorted(names_of(shelf, folder))
        first = [(ROOT, "clash")] if folder == CLASH else names[:1]
        leave_out(shelf, [entry for entry in names if entry not in first])


def put_into_clash(shelf, number):
    name = clash_name(shelf.folders[CLASH], number)
    shelf.folders[CLASH][name] = number


def put_where_nameless(shelf, numbers):
    for number in numbers:
        if names_of(shelf, number) == []:
            put_into_clash(shelf, number)


def break_rings(shelf):
    ring = ring_in(shelf)
    while ring is not None:
        least = min(ring)
        leave_out(shelf, names_of(shelf, least))
        put_into_clash(shelf, least)
        ring = ring_in(shelf)


def mended(table):
    fault = looked(table)
    if fault is not None and fault[0] in ("twice", "root", "same"):
        raise NoMend(f"the table has a fault that can't be mended: {fault}")
    shelf = shelf_from(table)
    leave_out_astray(shelf)
    leave_out_further_names(shelf)
    put_where_nameless(shelf, [folder for folder in sorted(shelf.folders) if folder != ROOT])
    break_rings(shelf)
    put_where_nameless(shelf, sorted(shelf.files))
    return rows_of(shelf)
