"""The written form of rules."""

from stylepages.errors import BadRule
from stylepages.numerals import read_numeral
from stylepages.sheets.properties import PROPERTIES, is_value
from stylepages.tree.parts import is_marks, is_name

MOST_STEPS = 4
MOST_DECLARATIONS = 6

WRITTEN_JOINTS = {"": "", " ": " ", ">": " > "}


def _write_value(value):
    if isinstance(value, tuple):
        return f"{value[0]}/{value[1]}"
    return str(value)


def _write_declaration(declaration):
    name, value, strong = declaration
    sign = "!" if strong else ""
    return f"{name} {_write_value(value)}{sign}"


def write_rule(rule):
    """Return the written form of a rule."""
    selector, declarations = rule
    steps = [WRITTEN_JOINTS[joint] + ".".join((kind,) + marks) for joint, kind, marks in selector]
    rows = [_write_declaration(declaration) for declaration in declarations]
    return "".join(steps) + " { " + "; ".join(rows) + " }"


def _read_step(joint, word):
    kind, *marks = word.split(".")
    if not (kind == "*" or is_name(kind)) or not is_marks(marks):
        raise BadRule(0)
    return (joint, kind, tuple(marks))


def _read_selector(text):
    steps = []
    joint = ""
    for word in text.split(" "):
        if word == ">" and joint == " ":
            joint = ">"
        else:
            steps.append(_read_step(joint, word))
            joint = " "
    # A sign ">" at the end, or two side by side, leave no step behind them.
    if joint == ">" or len(steps) > MOST_STEPS:
        raise BadRule(0)
    return tuple(steps)


def _read_value(word):
    number = read_numeral(word)
    if number is not None:
        return number
    ratio = tuple([read_numeral(half) for half in word.split("/")])
    if len(ratio) == 2 and None not in ratio:
        return ratio
    return word


def _read_declaration(text):
    name, _, word = text.partition(" ")
    strong = word.endswith("!")
    value = _read_value(word.removesuffix("!"))
    if name not in PROPERTIES or not is_value(name, value):
        raise BadRule(0)
    return (name, value, strong)


def read_rule(line):
    """Return the rule whose written form the line is."""
    head, brace, tail = line.partition(" { ")
    if not brace or not tail.endswith(" }"):
        raise BadRule(0)
    rows = tail.removesuffix(" }").split("; ")
    if len(rows) > MOST_DECLARATIONS:
        raise BadRule(0)
    return (_read_selector(head), tuple([_read_declaration(row) for row in rows]))
