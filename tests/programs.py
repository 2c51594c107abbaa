"""Random programs, with a plain recursive telling of what they mean, beside which the package is held.

A node is a list [sort, kind, place, ..]: the kind of the word that it tells, the place that a trap at it would tell,
which the printer puts in. Nothing here uses the package.
"""

import random

from writing import Writer

TWO32 = 2 ** 32
FIELDS = {"x": ("int", 0, None), "y": ("uint", 1, None), "r": ("int", 2, 3), "q": ("uint", 5, 2)}
STRUCT_WORDS = 7
STRUCT_TEXT = "struct s { int x ; uint y ; int r [ 3 ] ; uint q [ 2 ] ; } ;"
STRENGTH = {
    "||": 1, "&&": 2, "|": 3, "^": 4, "&": 5, "==": 6, "!=": 6, "<": 7, "<=": 7, ">": 7, ">=": 7, "<<": 8, ">>": 8,
    "+": 9, "-": 9, "*": 10, "/": 10, "mod": 10,
}
COMPARISONS = ("==", "!=", "<", "<=", ">", ">=")


def words_of(kind):
    return STRUCT_WORDS if kind == "s" else 1


class Variable:
    """A global, a local or a param: a word, an array or a structure, or a slice."""

    def __init__(self, name, form, kind, many, is_global):
        self.name = name
        self.form = form
        self.kind = kind
        self.many = many
        self.is_global = is_global
        self.firsts = None


class Function:
    def __init__(self, name, kind, params):
        self.name = name
        self.kind = kind
        self.params = params
        self.body = []
        self.slot_words = 0


class Maker:
    """Makes a program."""

    def __init__(self, seed):
        self.random = random.Random(seed)
        self.globals = []
        self.functions = []
        self.scope = []
        self.here = None
        self.number = 0
        self.loops = 0

    def chance(self, part):
        return self.random.random() < part

    def new_name(self, letter):
        self.number += 1
        return letter + str(self.number)

    def program(self):
        for form in ("word", "word", "array", "array", "array", "struct"):
            self.globals.append(self.variable(form, True))
        for at in range(self.random.randrange(1, 5)):
            params = []
            while len(params) < self.random.randrange(4) and sum(2 if p.form == "slice" else 1 for p in params) < 6:
                params.append(self.param())
            self.functions.append(Function("f" + str(at), self.random.choice(("int", "uint", "void")), params))
        self.functions.append(Function("main", "int", []))
        for function in self.functions:
            self.here = function
            self.scope = list(function.params)
            self.number += 100
            function.body = self.statements(3, self.random.randrange(2, 7))
            if function.kind != "void":
                function.body.append(["return", None, None, self.word(12)])
        order = list(self.functions)
        self.random.shuffle(order)
        return self.globals, order

    def variable(self, form, is_global):
        kind = self.random.choice(("int", "uint"))
        many = None
        if form == "array":
            kind = self.random.choice(("int", "uint", "s"))
            many = self.random.randrange(1, 5)
        if form == "struct":
            kind = "s"
        variable = Variable(self.new_name("g" if is_global else "v"), form, kind, many, is_global)
        if is_global and kind != "s":
            if form == "word" and self.chance(0.5):
                variable.firsts = [self.some_word()]
            elif form == "array" and self.chance(0.5):
                variable.firsts = [self.some_word() for _ in range(self.random.randrange(many + 1))]
        return variable

    def param(self):
        if self.chance(0.5):
            return Variable(self.new_name("p"), "word", self.random.choice(("int", "uint")), None, False)
        return Variable(self.new_name("p"), "slice", self.random.choice(("int", "uint", "s")), None, False)

    def some_word(self):
        return self.random.choice((0, 1, 1, 2, 2, 3, 3, 5, 7, 31, 32, 33, 100, 2147483647, 2147483648, 4294967295))

    # Words.

    def number_node(self, word):
        uint = word >= 2 ** 31 or self.chance(0.2)
        return ["number", "uint" if uint else "int", None, word, uint and word < 2 ** 31]

    def word(self, budget):
        if budget <= 1:
            return self.leaf()
        form = self.random.randrange(14)
        if form < 5:
            sign = self.random.choice(list(STRENGTH))
            left = self.word(budget // 2)
            right = self.word(budget // 2)
            if sign in ("/", "mod") and self.chance(0.7):
                right = self.number_node(self.random.choice((1, 2, 3, 7, 4294967295)))
            return ["two", self.kind_of_two(sign, left, right), None, sign, left, right]
        if form < 7:
            inner = self.word(budget - 1)
            sign = self.random.choice("!~-")
            return ["one", "int" if sign == "!" else inner[1], None, sign, inner]
        if form == 7:
            test, then, other = [self.word(budget // 3) for _ in range(3)]
            return ["three", "uint" if "uint" in (then[1], other[1]) else "int", None, test, then, other]
        if form < 10:
            functions = [function for function in self.functions if function.kind != "void"]
            if functions and self.chance(0.6):
                return self.call(self.random.choice(functions), budget)
        return self.place_or_leaf(budget)

    def kind_of_two(self, sign, left, right):
        if sign in COMPARISONS or sign in ("&&", "||"):
            return "int"
        if sign in ("<<", ">>"):
            return left[1]
        return "uint" if "uint" in (left[1], right[1]) else "int"

    def call(self, function, budget):
        if self.functions.index(function) >= self.functions.index(self.here) and self.chance(0.9):
            return self.leaf()
        args = []
        for param in function.params:
            if param.form == "word":
                args.append(self.word(budget // 3))
            else:
                args.append(self.handed(param.kind, budget))
        if None in args:
            return self.leaf()
        return ["call", function.kind, None, function, args]

    def handed(self, kind, budget):
        """What may be handed for a slice of this kind, None if there is nothing."""
        found = [["rowed", kind, None, row] for row in self.rows_of(kind, budget)]
        found += [["alone", kind, None, thing] for thing in self.things_of(kind, budget)]
        return self.random.choice(found) if found else None

    def visible(self):
        return self.scope + self.globals

    def structures(self, budget):
        found = []
        for variable in self.visible():
            if variable.form == "struct":
                found.append(["variable", "s", None, variable])
            elif variable.kind == "s":
                found.append(self.element(["variable", "s", None, variable], "s", variable.many, budget))
        return found

    def rows_of(self, kind, budget):
        """Nodes of arrays and slices of a kind."""
        found = [
            ["variable", kind, None, variable] for variable in self.visible()
            if variable.form in ("array", "slice") and variable.kind == kind
        ]
        if kind != "s":
            for thing in self.structures(budget // 2):
                field = {"int": "r", "uint": "q"}[kind]
                found.append(["field", kind, None, field, thing])
        return found

    def things_of(self, kind, budget):
        """Nodes of things of a kind that are no local words."""
        found = []
        for row in self.rows_of(kind, budget // 2):
            found.append(self.element(row, kind, self.many_of(row), budget))
        if kind == "s":
            found += self.structures(budget)
        else:
            for thing in self.structures(budget // 2):
                found.append(["field", kind, None, {"int": "x", "uint": "y"}[kind], thing])
            found += [["variable", kind, None, v] for v in self.globals if v.form == "word" and v.kind == kind]
        return found

    def many_of(self, row):
        if row[0] == "field":
            return FIELDS[row[3]][2]
        return row[3].many

    def element(self, row, kind, many, budget):
        if self.chance(0.85):
            index = self.number_node(self.random.randrange(many or 1))
        else:
            index = self.word(budget // 2)
        return ["element", kind, None, row, index]

    def place_or_leaf(self, budget):
        kind = self.random.choice(("int", "uint"))
        if self.chance(0.2):
            rows = self.rows_of(self.random.choice(("int", "uint", "s")), budget // 2)
            if rows:
                return ["length", "int", None, self.random.choice(rows)]
        things = self.things_of(kind, budget // 2)
        return self.random.choice(things) if things and self.chance(0.7) else self.leaf()

    def leaf(self):
        words = [variable for variable in self.visible() if variable.form == "word"]
        form = self.random.randrange(8)
        if form < 4 and words:
            variable = self.random.choice(words)
            return ["variable", variable.kind, None, variable]
        if form == 4:
            return ["in", "int", None] if self.chance(0.4) else ["more", "int", None]
        return self.number_node(self.some_word())

    # Statements.

    def statements(self, depth, many):
        known = len(self.scope)
        found = []
        for _ in range(many):
            found.append(self.statement(depth))
        del self.scope[known:]
        return found

    def statement(self, depth):
        form = self.random.randrange(18)
        if form < 3:
            return ["out", None, None, self.word(10)]
        if form < 6:
            return self.declaration()
        if form < 10 or depth == 0:
            return self.assignment()
        if form < 12:
            other = self.statements(depth - 1, self.random.randrange(3)) if self.chance(0.5) else None
            return ["if", None, None, self.word(8), self.statements(depth - 1, self.random.randrange(4)), other]
        if form < 15:
            return self.loop(depth, form - 12)
        if form == 15:
            return self.switch(depth)
        if form == 16:
            return self.call_statement()
        return self.leaving(depth)

    def leaving(self, depth):
        form = self.random.randrange(5)
        if form == 0:
            return ["assert", None, None, self.word(6)]
        if form == 1:
            return ["braces", None, None, self.statements(depth - 1, 2)]
        if form == 2 and self.chance(0.5):
            return ["return", None, None, None if self.here.kind == "void" else self.word(6)]
        if self.loops == 0:
            return self.assignment()
        return ["break" if form == 3 else "continue", None, None]

    def declaration(self):
        form = self.random.choice(("word", "word", "array", "struct"))
        variable = self.variable(form, False)
        firsts = None
        if form == "word" and self.chance(0.7):
            firsts = [self.word(8)]
        elif form == "array" and variable.kind != "s" and self.chance(0.6):
            firsts = [self.word(5) for _ in range(self.random.randrange(variable.many + 1))]
        if form != "word":
            self.here.slot_words += words_of(variable.kind) * (variable.many or 1)
        self.scope.append(variable)
        return ["declaration", None, None, variable, firsts]

    def assignment(self):
        kind = self.random.choice(("int", "uint"))
        goals = self.things_of(kind, 6)
        goals += [["variable", v.kind, None, v] for v in self.visible() if v.form == "word"]
        if not goals:
            return ["out", None, None, self.word(6)]
        return ["assignment", None, None, self.random.choice(goals), self.word(10)]

    def call_statement(self):
        call = self.call(self.random.choice(self.functions), 6)
        return ["do call", None, None, call] if call[0] == "call" else ["out", None, None, call]

    def loop(self, depth, form):
        """A loop that ends by a counter, mostly."""
        counter = Variable(self.new_name("i"), "word", "int", None, False)
        self.scope.append(counter)
        node = ["variable", "int", None, counter]
        test = ["two", "int", None, "<", node, self.number_node(self.random.randrange(5))]
        test[5][1], test[5][4] = "int", False
        if self.chance(0.1):
            test = self.word(5)
        step = ["assignment", None, None, node, ["two", "int", None, "+", node, ["number", "int", None, 1, False]]]
        self.loops += 1
        body = self.statements(depth - 1, self.random.randrange(1, 4))
        self.loops -= 1
        declaration = ["declaration", None, None, counter, None]
        if form == 0:
            self.scope.remove(counter)
            parts = [declaration, test if self.chance(0.95) else None, step]
            return ["for", None, None, parts, body]
        self.scope.remove(counter)
        sort = ("while", "do")[form - 1]
        return ["braces", None, None, [declaration, [sort, None, None, test, [step] + body]]]

    def switch(self, depth):
        words = []
        for _ in range(self.random.randrange(4)):
            word = self.some_word()
            if word not in words:
                words.append(word)
        cases = [(word, self.statements(depth - 1, self.random.randrange(3))) for word in words]
        default = self.statements(depth - 1, self.random.randrange(3)) if self.chance(0.5) else None
        return ["switch", None, None, self.word(5), cases, default]


class Printer(Writer):
    """Prints a program, with as few brackets as can be and some more, and puts in the places."""

    def put(self, piece):
        """Print a piece; the answer is its place."""
        return ("m", *self.write(piece))

    def put_all(self, pieces):
        for piece in pieces.split():
            self.put(piece)

    def kind(self, kind):
        self.put_all("struct s" if kind == "s" else kind)

    def program(self, variables, functions):
        self.put_all("module m ; " + STRUCT_TEXT)
        for variable in variables:
            self.declared(variable)
            if variable.firsts is not None:
                numbers = [str(word) if word < 2 ** 31 else "- " + str(TWO32 - word) for word in variable.firsts]
                form = "= { " + " , ".join(numbers) + " }" if variable.form == "array" else "= " + numbers[0]
                self.put_all(form)
            self.put(";")
        for function in functions:
            self.put_all(function.kind + " " + function.name + " (")
            for at, param in enumerate(function.params):
                if at > 0:
                    self.put(",")
                self.kind(param.kind)
                self.put(param.name)
                if param.form == "slice":
                    self.put_all("[ ]")
            self.put_all(") {")
            self.statements(function.body)
            self.put("}")
        return self.text

    def declared(self, variable):
        self.kind(variable.kind)
        self.put(variable.name)
        if variable.form == "array":
            self.put_all("[ " + str(variable.many) + " ]")

    def statements(self, statements):
        for statement in statements:
            self.statement(statement)

    def braces(self, statements):
        self.put("{")
        self.statements(statements)
        self.put("}")

    def statement(self, node):
        sort = node[0]
        if sort in ("break", "continue"):
            self.put_all(sort + " ;")
        elif sort in ("out", "assert"):
            node[2] = self.put(sort)
            self.bracketed(node[3])
            self.put(";")
        elif sort in ("declaration", "assignment", "do call"):
            self.plain(node)
            self.put(";")
        elif sort == "braces":
            self.braces(node[3])
        elif sort == "return":
            self.put("return")
            if node[3] is not None:
                self.expression(node[3], 0)
            self.put(";")
        else:
            getattr(self, "print_" + sort)(node)

    def plain(self, node):
        if node[0] == "declaration":
            self.declared(node[3])
            if node[4] is not None and node[3].form == "word":
                self.put("=")
                self.expression(node[4][0], 0)
            elif node[4] is not None:
                self.put_all("= {")
                for at, first in enumerate(node[4]):
                    if at > 0:
                        self.put(",")
                    self.expression(first, 0)
                self.put("}")
        elif node[0] == "assignment":
            self.expression(node[3], 0)
            self.put("=")
            self.expression(node[4], 0)
        else:
            self.expression(node[3], 0)

    def bracketed(self, node):
        self.put("(")
        self.expression(node, 0)
        self.put(")")

    def print_if(self, node):
        self.put("if")
        self.bracketed(node[3])
        self.braces(node[4])
        if node[5] is not None:
            self.put("else")
            if len(node[5]) == 1 and node[5][0][0] == "if":
                self.statement(node[5][0])
            else:
                self.braces(node[5])

    def print_while(self, node):
        self.put("while")
        self.bracketed(node[3])
        self.braces(node[4])

    def print_do(self, node):
        self.put("do")
        self.braces(node[4])
        self.put("while")
        self.bracketed(node[3])
        self.put(";")

    def print_for(self, node):
        first, test, step = node[3]
        self.put_all("for (")
        if first is not None:
            self.plain(first)
        self.put(";")
        if test is not None:
            self.expression(test, 0)
        self.put(";")
        if step is not None:
            self.plain(step)
        self.put(")")
        self.braces(node[4])

    def print_switch(self, node):
        self.put("switch")
        self.bracketed(node[3])
        self.put("{")
        for word, statements in node[4]:
            if self.random.random() < 0.3:
                self.put_all("case - " + str((TWO32 - word) % TWO32) + " :")
            else:
                self.put_all("case " + str(word) + " :")
            self.statements(statements)
        if node[5] is not None:
            self.put_all("default :")
            self.statements(node[5])
        self.put("}")

    def expression(self, node, strength):
        """Print an expression where what binds less than this wants brackets."""
        if self.strength_of(node) < strength or self.random.random() < 0.05:
            self.put("(")
            self.expression(node, 0)
            self.put(")")
        else:
            getattr(self, "print_" + node[0])(node)

    def strength_of(self, node):
        if node[0] == "three":
            return 0
        if node[0] == "two":
            return STRENGTH[node[3]]
        return 11 if node[0] == "one" else 12

    def print_number(self, node):
        text = str(node[3]) if self.random.random() < 0.8 else hex(node[3])
        self.put(text + ("u" if node[4] else ""))

    def print_variable(self, node):
        self.put(node[3].name)

    def print_in(self, node):
        node[2] = self.put("in")
        self.put_all("( )")

    def print_more(self, node):
        self.put_all("more ( )")

    def print_one(self, node):
        self.put(node[3])
        self.expression(node[4], 11)

    def print_two(self, node):
        self.expression(node[4], STRENGTH[node[3]])
        node[2] = self.put(node[3])
        self.expression(node[5], STRENGTH[node[3]] + 1)

    def print_three(self, node):
        self.expression(node[3], 1)
        self.put("?")
        self.expression(node[4], 0)
        self.put(":")
        self.expression(node[5], 0)

    def print_element(self, node):
        self.expression(node[3], 12)
        node[2] = self.put("[")
        self.expression(node[4], 0)
        self.put("]")

    def print_field(self, node):
        self.expression(node[4], 12)
        self.put(".")
        self.put(node[3])

    def print_length(self, node):
        self.expression(node[3], 12)
        self.put_all(". length")

    def print_rowed(self, node):
        self.expression(node[3], 0)

    def print_alone(self, node):
        self.expression(node[3], 0)

    def print_call(self, node):
        node[2] = self.put(node[3].name)
        self.put("(")
        for at, arg in enumerate(node[4]):
            if at > 0:
                self.put(",")
            self.expression(arg, 0)
        self.put(")")


class Trap(Exception):
    pass


class Enough(Exception):
    pass


class Leaving(Exception):
    pass


class Teller:
    """Tells what a program means, recursively."""

    def __init__(self, variables, functions, inputs, limit, most):
        self.functions = functions
        self.inputs = list(inputs)
        self.limit = limit
        self.most = most
        self.outputs = []
        self.steps = 0
        self.depth = 0
        self.things = {}
        self.frame = {}
        for variable in variables:
            words = words_of(variable.kind) * (variable.many or 1)
            firsts = variable.firsts or []
            self.things[variable] = firsts + [0] * (words - len(firsts))

    def run(self):
        """(outputs, ending, steps), the ending None if it goes on for too long."""
        main = [function for function in self.functions if function.name == "main"][0]
        try:
            ending = ("answer", self.call(main, [], None))
        except Trap as trap:
            ending = ("trap", *trap.args)
        except Enough:
            ending = None
        return tuple(self.outputs), ending, self.steps

    def count(self, many):
        self.steps += many
        if self.steps > self.most:
            raise Enough()

    def call(self, function, args, place):
        if self.depth == self.limit:
            raise Trap("stack", place)
        outer = self.frame
        self.depth += 1
        self.frame = dict(zip(function.params, args))
        self.count(function.slot_words)
        answer = 0
        try:
            self.statements(function.body)
        except Leaving as leaving:
            answer = leaving.args[1]
        self.depth -= 1
        self.frame = outer
        return answer

    def statements(self, statements):
        for statement in statements:
            self.statement(statement)

    def statement(self, node):
        self.count(1)
        getattr(self, "do_" + node[0].replace(" ", "_"))(node)

    def do_out(self, node):
        self.outputs.append(self.word(node[3]))

    def do_assert(self, node):
        if self.word(node[3]) == 0:
            raise Trap("told", node[2])

    def do_braces(self, node):
        self.statements(node[3])

    def do_do_call(self, node):
        self.word(node[3])

    def do_break(self, node):
        raise Leaving("break", None)

    def do_continue(self, node):
        raise Leaving("continue", None)

    def do_return(self, node):
        raise Leaving("return", None if node[3] is None else self.word(node[3]))

    def do_declaration(self, node):
        _, _, _, variable, firsts = node
        if variable.form == "word":
            self.frame[variable] = 0 if firsts is None else self.word(firsts[0])
            return
        words = words_of(variable.kind) * (variable.many or 1)
        self.count(words)
        made = [self.word(first) for first in firsts or []]
        self.frame[variable] = made + [0] * (words - len(made))

    def do_assignment(self, node):
        goal = node[3]
        if goal[0] == "variable" and not goal[3].is_global:
            self.frame[goal[3]] = self.word(node[4])
        else:
            words, at = self.thing(goal)
            words[at] = self.word(node[4])

    def do_if(self, node):
        if self.word(node[3]) != 0:
            self.statements(node[4])
        elif node[5] is not None:
            self.statements(node[5])

    def round(self, body):
        """One round of a loop: whether the loop goes on."""
        try:
            self.statements(body)
        except Leaving as leaving:
            if leaving.args[0] == "return":
                raise
            return leaving.args[0] == "continue"
        return True

    def do_while(self, node):
        while self.word(node[3]) != 0 and self.round(node[4]):
            self.count(1)

    def do_do(self, node):
        while self.round(node[4]):
            if self.word(node[3]) == 0:
                break
            self.count(1)

    def do_for(self, node):
        first, test, step = node[3]
        if first is not None:
            self.statement(first)
        while (test is None or self.word(test) != 0) and self.round(node[4]):
            if step is not None:
                self.statement(step)
            self.count(1)

    def do_switch(self, node):
        word = self.word(node[3])
        for case, statements in node[4]:
            self.count(1)
            if case == word:
                self.statements(statements)
                return
        if node[5] is not None:
            self.statements(node[5])

    def thing(self, node):
        """The list and the place of a thing."""
        if node[0] == "variable":
            return (self.things[node[3]] if node[3].is_global else self.frame[node[3]]), 0
        if node[0] == "field":
            words, at = self.thing(node[4])
            return words, at + FIELDS[node[3]][1]
        words, at, many = self.row(node[3])
        index = self.word(node[4])
        self.count(1)
        if index >= many:
            raise Trap("bounds", node[2])
        return words, at + index * words_of(node[1])

    def row(self, node):
        """The list, the place and the length of an array or a slice."""
        if node[0] == "variable" and node[3].form == "slice":
            return self.frame[node[3]]
        words, at = self.thing(node)
        return words, at, FIELDS[node[3]][2] if node[0] == "field" else node[3].many

    def length(self, node):
        if node[0] == "field":
            return FIELDS[node[3]][2]
        return self.frame[node[3]][2] if node[3].form == "slice" else node[3].many

    def word(self, node):
        sort = node[0]
        if sort in ("number", "in", "more", "length"):
            self.count(1)
        if sort == "number":
            return node[3]
        if sort == "in":
            if not self.inputs:
                raise Trap("input", node[2])
            return self.inputs.pop(0)
        if sort == "more":
            return int(bool(self.inputs))
        if sort == "length":
            return self.length(node[3])
        if sort in ("variable", "field", "element"):
            return self.read(node)
        return getattr(self, "tell_" + sort)(node)

    def read(self, node):
        if node[0] == "variable" and not node[3].is_global:
            self.count(1)
            return self.frame[node[3]]
        words, at = self.thing(node)
        self.count(1)
        return words[at]

    def tell_call(self, node):
        args = []
        for arg in node[4]:
            if arg[0] == "rowed":
                args.append(self.row(arg[3]))
            elif arg[0] == "alone":
                args.append((*self.thing(arg[3]), 1))
            else:
                args.append(self.word(arg))
        self.count(1)
        return self.call(node[3], args, node[2])

    def tell_one(self, node):
        word = self.word(node[4])
        self.count(1)
        return {"!": int(word == 0), "~": TWO32 - 1 - word, "-": -word % TWO32}[node[3]]

    def tell_three(self, node):
        test = self.word(node[3])
        self.count(1)
        return self.word(node[4] if test != 0 else node[5])

    def tell_two(self, node):
        _, kind, place, sign, left, right = node
        a = self.word(left)
        if sign in ("&&", "||"):
            self.count(1)
            settled = (a == 0) == (sign == "&&")
            return int(a != 0) if settled else int(self.word(right) != 0)
        b = self.word(right)
        self.count(1)
        with_sign = "uint" not in ((left[1],) if sign == ">>" else (left[1], right[1]))
        if sign in ("<<", ">>"):
            return self.shifted(sign, a, b & 31, with_sign)
        x, y = [(word ^ 2 ** 31) - 2 ** 31 if with_sign else word for word in (a, b)]
        if sign in COMPARISONS:
            return int({"==": x == y, "!=": x != y, "<": x < y, "<=": x <= y, ">": x > y, ">=": x >= y}[sign])
        if sign in ("/", "mod"):
            if y == 0:
                raise Trap("zero", place)
            over = abs(x) // abs(y) * (1 if (x < 0) == (y < 0) else -1)
            return (over if sign == "/" else x - over * y) % TWO32
        return {"+": a + b, "-": a - b, "*": a * b, "&": a & b, "|": a | b, "^": a ^ b}[sign] % TWO32

    def shifted(self, sign, a, b, with_sign):
        if sign == "<<":
            return (a << b) % TWO32
        return (((a ^ 2 ** 31) - 2 ** 31 if with_sign else a) >> b) % TWO32


def random_program(seed):
    """The text of a program, and what a Teller of it needs."""
    variables, functions = Maker(seed).program()
    return Printer(seed).program(variables, functions), variables, functions
