"""Joining: deeds that a hand did alone are done on the shelf, or told as clashes with both kept."""

from farshelf.clash import clash_name
from farshelf.shelf import CLASH, done, make_file


def files_shut(deeds):
    return [deed[1] for deed in deeds if deed[0] == "shut"]


# refused: the files of which an earlier shut was refused, so that a later one would build on what isn't there.
def first_answer(shelf, deed, refused):
    if deed[0] == "make":
        return done(shelf, deed)
    if deed[1] in refused:
        return ("refused", "stale")
    return done(shelf, ("put", deed[1], deed[2], deed[3]))


# The content goes in as it is, without the checks of a deed: what was done alone must not be lost.
def clash(shelf, content, word):
    name = clash_name(shelf.folders[CLASH], shelf.greatest + 1)
    return ("clash", make_file(shelf, CLASH, name, content), word)


def joined(shelf, deeds):
    told = []
    refused = {}
    for deed in deeds:
        answer = first_answer(shelf, deed, refused)
        if answer[0] == "refused":
            if deed[0] == "shut":
                refused[deed[1]] = True
            answer = clash(shelf, deed[3], answer[1])
        told.append(answer)
    return ("joined", told)
