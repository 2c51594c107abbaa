"""Helpers of the tests."""

from trueimage.checker import check_module, header_of
from trueimage.errors import BadProgram, BadText
from trueimage.meaning import mean
from trueimage.reader import read_module

WORDS_OF_WHY = (
    "told twice", "no such name", "no such function", "no such structure", "no such field", "no field", "no array",
    "no object", "no word", "no number", "number of arguments", "kind", "length", "no return", "return", "no loop",
    "main", "headers", "uses",
)

# The program of the document: the sum of the greatest two numbers.
GREATEST_TWO = """module top;
int best[2];
void see(int x) {
  if (x > best[0]) { best[1] = best[0]; best[0] = x; }
  else if (x > best[1]) { best[1] = x; }
}
int main() {
  while (more()) { see(in()); }
  out(best[0] + best[1]);
  return 0;
}
"""


def place_of_fault(text):
    """The place that BadText tells for a text, None for a right one."""
    try:
        read_module(text)
    except BadText as error:
        return (error.line, error.column)
    return None


def checked(*texts):
    """The checked modules of texts, of which each one uses earlier ones alone."""
    headers = {}
    modules = []
    for text in texts:
        tree = read_module(text)
        names = [line.split()[1] for line in text.replace(";", "\n").split("\n") if line.split()[:1] == ["use"]]
        own = text.split()[1].strip(";")
        told = tuple(headers[name] for name in names)
        headers[own] = header_of(tree, told)
        modules.append(check_module(tree, told))
    return modules


def fault_of(*texts):
    """The BadProgram that checking raises, None if there is none."""
    try:
        checked(*texts)
    except BadProgram as error:
        return error
    return None


def run_of(text, inputs=(), limit=100, most=100000):
    """What the program of a text does."""
    return mean(checked(text), tuple(inputs), limit, most)


def main_of(statements, ahead=""):
    """A module with things told ahead, and a main of these statements that ends with return 0."""
    return "module m; " + ahead + " int main() { " + statements + " return 0; }"


def outputs_of(statements, ahead="", inputs=()):
    """What main puts out; the run must come to its answer 0."""
    outputs, ending, _ = run_of(main_of(statements, ahead), inputs)
    assert ending == ("answer", 0), ending
    return list(outputs)


def values_of(*expressions, ahead="", inputs=()):
    """What expressions tell."""
    return outputs_of(" ".join("out(" + text + ");" for text in expressions), ahead, inputs)
