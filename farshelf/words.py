"""The words of the shelf: names, contents and paths."""

# The signs are written out, as Python's own isalnum takes letters and figures of all scripts.
NAME_SIGNS = "abcdefghijklmnopqrstuvwxyz0123456789"
CONTENT_SIGNS = "abcdefghijklmnopqrstuvwxyz0123456789."
LONGEST_NAME = 8
LONGEST_CONTENT = 200


def all_among(text, signs):
    return all([sign in signs for sign in text])


def is_name(text):
    return 1 <= len(text) <= LONGEST_NAME and all_among(text, NAME_SIGNS)


def is_content(text):
    return len(text) <= LONGEST_CONTENT and all_among(text, CONTENT_SIGNS)


def is_path(text):
    if text == "/":
        return True
    return text.startswith("/") and all([is_name(part) for part in text[1:].split("/")])
