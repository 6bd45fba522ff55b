"""The first lines of rules: their outputs and inputs."""

from kilnyard.paths import is_path, is_pattern

MOST_OUTPUTS = 3
MOST_INPUTS = 6


def has_output(book, path):
    """True if a rule of the book has this very path as an output."""
    return any([path in rule.outputs for rule in book.rules])


def read_outputs(line, book):
    """The outputs in the first line of a rule that the book does not have yet."""
    outputs = []
    while line.word(len(outputs) + 1) != ":":
        _check_output(line, outputs, book)
        outputs.append(line.word(len(outputs) + 1))
    if outputs == []:
        line.refuse(1, "missing output")
    return tuple(outputs)


def read_inputs(line, outputs):
    """The inputs in the first line of a rule with these outputs."""
    inputs = []
    # The word in front of the outputs and the colon behind them are no inputs.
    for at in range(len(outputs) + 2, len(line.tokens)):
        path = line.word(at)
        if len(inputs) == MOST_INPUTS:
            line.refuse(at, "too many inputs")
        if not is_path(path) and not (is_pattern(path) and is_pattern(outputs[0])):
            line.refuse(at, "invalid path")
        inputs.append(path)
    return tuple(inputs)


def _check_output(line, outputs, book):
    """Checks the output that stands in the line behind these ones."""
    at = len(outputs) + 1
    path = line.word(at)
    if len(outputs) == MOST_OUTPUTS:
        line.refuse(at, "too many outputs")
    if not is_path(path) and not is_pattern(path):
        line.refuse(at, "invalid path")
    if outputs != [] and is_path(path) != is_path(outputs[0]):
        line.refuse(at, "mixed outputs")
    # Several rules may have the same pattern, but not the same path.
    if path in outputs or (is_path(path) and has_output(book, path)):
        line.refuse(at, "duplicate output")
    if path in book.files:
        line.refuse(at, "reserved output")
