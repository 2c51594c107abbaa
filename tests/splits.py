"""Random programs split into modules; nothing here uses the package."""

import random

from programs import STRUCT_TEXT, Function, Maker, Printer, Variable


def found_in(node, kind):
    """All things of a class that stand in a node, or in what stands in it."""
    pile, found, seen = [node], set(), set()
    while pile:
        thing = pile.pop()
        if isinstance(thing, (Function, Variable)):
            if isinstance(thing, kind):
                found.add(thing)
        elif isinstance(thing, (list, tuple)) and id(thing) not in seen:
            seen.add(id(thing))
            pile.extend(thing)
    return found


class ModulePrinter(Printer):
    """Prints a module, with its name in the places."""

    def __init__(self, seed, name):
        super().__init__(seed)
        self.name = name

    def put(self, piece):
        return (self.name, *self.write(piece))

    def module(self, uses, has_struct, variables, functions):
        self.put_all("module " + self.name + " ;")
        for used in uses:
            self.put_all("use " + used + " ;")
        if has_struct:
            self.put_all(STRUCT_TEXT)
        for variable in variables:
            self.declared(variable)
            if variable.firsts is not None:
                numbers = [str(word) if word < 2 ** 31 else "- " + str(2 ** 32 - word) for word in variable.firsts]
                self.put_all("= { " + " , ".join(numbers) + " }" if variable.form == "array" else "= " + numbers[0])
            self.put(";")
        for function in functions:
            self.function(function)
        return self.text

    def function(self, function):
        self.put_all(function.kind + " " + function.name + " (")
        for at, param in enumerate(function.params):
            if at > 0:
                self.put(",")
            self.kind(param.kind)
            self.put(param.name)
            if param.form == "slice":
                self.put_all("[ ]")
        self.put_all(") {")
        self.statements(function.body)
        self.put("}")


def random_modules(seed, most=4):
    """The texts of a random program in some modules, and what a Teller of it needs."""
    numbers = random.Random(seed)
    variables, functions = Maker(seed).program()
    many = numbers.randrange(1, most + 1)
    homes = {function: numbers.randrange(many) for function in functions}
    changed = True
    while changed:
        # Who calls stands with what it calls, or behind it.
        changed = False
        for function in functions:
            least = max([homes[callee] for callee in found_in(function.body, Function)] + [0])
            if homes[function] < least:
                homes[function] = least
                changed = True
    for variable in variables:
        users = [homes[function] for function in functions if variable in found_in(function.body, Variable)]
        homes[variable] = numbers.randrange(min(users + [many - 1]) + 1)
    names = ["one", "two", "three", "four"][:many]
    texts = []
    for number, name in enumerate(names):
        uses = names[:number]
        numbers.shuffle(uses)
        texts.append(ModulePrinter(seed + number, name).module(
            uses, number == 0, [variable for variable in variables if homes[variable] == number],
            [function for function in functions if homes[function] == number]))
    numbers.shuffle(texts)
    return texts, variables, functions
