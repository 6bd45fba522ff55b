"""The written forms of strings, expressions and rules."""

INDENT = "  "


def format_string(text):
    """The written form of a string, with its quotes."""
    # Backslashes come first: those that the other escapes bring are not escaped again.
    escaped = text.replace("\\", "\\\\").replace('"', '\\"').replace("\n", "\\n")
    return '"' + escaped + '"'


def format_expression(expression):
    """The written form of an expression."""
    form = expression[0]
    if form == "text":
        return format_string(expression[1])
    if form == "name":
        return expression[1]
    if form == "call":
        arguments = ", ".join([format_expression(argument) for argument in expression[2]])
        return f"{expression[1]}({arguments})"
    return " + ".join([format_expression(term) for term in expression[1]])


def format_rule(rule):
    """The written form of a rule."""
    word = "sealed" if rule.sealed else "rule"
    head = " ".join([word] + list(rule.outputs) + [":"] + list(rule.inputs))
    return "\n".join([head] + _body_lines(rule.body, INDENT) + ["end"])


def _body_lines(body, indent):
    """The lines of the statements of a body."""
    lines = []
    for statement in body:
        lines.append(indent + _first_line(statement))
        lines.extend(_block_lines(statement, indent))
    return lines


def _first_line(statement):
    """The line with which a statement begins, without its indent."""
    word = statement[0]
    if word == "fail":
        return word
    if word == "if":
        return f"if {format_expression(statement[1])}"
    if word == "each":
        return f"each {statement[1]} in {format_expression(statement[2])}"
    return f"{word} {statement[1]} {format_expression(statement[2])}"


def _block_lines(statement, indent):
    """The lines of a statement behind its first one: those of its blocks, and its end."""
    if statement[0] == "each":
        return _body_lines(statement[3], indent + INDENT) + [indent + "end"]
    if statement[0] != "if":
        return []
    lines = _body_lines(statement[2], indent + INDENT)
    if statement[3] != ():
        lines = lines + [indent + "else"] + _body_lines(statement[3], indent + INDENT)
    return lines + [indent + "end"]
