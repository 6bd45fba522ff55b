"""The lines of texts, and the functions of expressions that look at nothing."""


def lines_of(text):
    """The lines of a text; the empty text has none."""
    return [] if text == "" else text.split("\n")


def apply_function(name, arguments):
    """The value of the function of this name for a list of texts."""
    function = PLAIN_FUNCTIONS[name]
    return function(*arguments)


def _same(one, other):
    return "yes" if one == other else ""


def _not(text):
    return "yes" if text == "" else ""


def _upper(text):
    return text.upper()


def _count(text):
    return f"{len(lines_of(text))}"


def _sort(text):
    return "\n".join(sorted(lines_of(text)))


def _first(text):
    return text.partition("\n")[0]


def _rest(text):
    return text.partition("\n")[2]


def _join(text, between):
    return between.join(lines_of(text))


def _swap(text, old, new):
    # Python would put the new text around each character if there is nothing to replace.
    return text if old == "" else text.replace(old, new)


PLAIN_FUNCTIONS = {
    "same": _same, "not": _not, "upper": _upper, "count": _count, "sort": _sort,
    "first": _first, "rest": _rest, "join": _join, "swap": _swap,
}
