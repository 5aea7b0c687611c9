"""Requests by paths: those that name an entry of the shelf by the path that leads to it, or would."""

from farshelf.shelf import done, node_at
from farshelf.words import is_path


def path_of_folder(path):
    start = path.rpartition("/")[0]
    return "/" if start == "" else start


def refusal_of_path(shelf, path):
    if not is_path(path):
        return "name"
    if path == "/":
        return "kept"
    if node_at(shelf, path_of_folder(path)) is None:
        return "lacks"
    return None


# The folder and the name, as a deed has them.
def entry_at(shelf, path):
    return (node_at(shelf, path_of_folder(path)), path.rpartition("/")[2])


# Each path of the request gives its place to its folder and name; the rest stands as in the deed.
def done_by_paths(shelf, request):
    many = 2 if request[0] == "move" else 1
    paths = request[1:1 + many]
    for path in paths:
        word = refusal_of_path(shelf, path)
        if word is not None:
            return ("refused", word)
    deed = (request[0],)
    for path in paths:
        deed += entry_at(shelf, path)
    return done(shelf, deed + request[1 + many:])
