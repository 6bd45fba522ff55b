"""What persons' entries, a book and settings tell without any job being done."""

from kilnyard.keys import content_key
from kilnyard.targets import listing_text, maker


def persons_content(tree, path):
    """The content of the person's file at this very path, or None."""
    return tree.read(path) if tree.writer(path) == "person" else None


def is_missing(tree, book, path):
    """True if no job makes a path and no person's file is there."""
    return maker(book, path) is None and persons_content(tree, path) is None


def see_source(tree, book, settings, question):
    """The answer to a question, where no job makes the path of a ("file", path)."""
    kind = question[0]
    if kind == "file":
        return key_or_none(persons_content(tree, question[1]))
    if kind == "has":
        return not is_missing(tree, book, question[1])
    if kind == "listing":
        return content_key(listing_text(tree, book, question[1], question[2]))
    if kind == "setting":
        # The host's own text comes before the book's default.
        return key_or_none(settings.get(question[1], book.settings.get(question[1])))
    return None if maker(book, question[1]) is not None else key_or_none(tree.target(question[1]))


def key_or_none(text):
    """The key of a text, or None for None."""
    return None if text is None else content_key(text)
