"""Copies of values: what is told is the asker's own, and of what is handed in copies are kept."""


def own_copy(value):
    if isinstance(value, list):
        return [own_copy(part) for part in value]
    if isinstance(value, tuple):
        return tuple([own_copy(part) for part in value])
    if isinstance(value, dict):
        return dict([(key, own_copy(part)) for key, part in value.items()])
    return value


# Whether nobody can change a value, so that it may be shared without a copy.
def is_fixed(value):
    if isinstance(value, tuple):
        return all([is_fixed(part) for part in value])
    return not isinstance(value, (list, dict))
