"""Copies of values: what is told is the asker's own, and of what is handed in copies are kept."""


def own_copy(value):
    if isinstance(value, list):
        return [own_copy(part) for part in value]
    if isinstance(value, tuple):
        return tuple([own_copy(part) for part in value])
    return value
