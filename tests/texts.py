"""Random texts that are right but for the bounds of [8], with the place of the first piece that those make wrong."""

from writing import Writer

PLACES = ("=", "+", "-", "*", "/", "mod", "<", "<=", ">", ">=", "==", "!=", "&&", "||", "&", "|", "^", "<<", ">>")


class TextWriter(Writer):
    """Writes a text piece by piece, and knows how deep each one stands and how many of its expression came ahead."""

    def __init__(self, seed, wide):
        super().__init__(seed)
        # How likely an expression grows to its side instead of downwards.
        self.wide = wide
        self.wrong = None
        self.too_deep = False
        self.count = 0
        self.left = 600

    def put(self, piece, counted=False):
        """Write a piece; counted if a part of an expression begins with it."""
        self.count += 1
        self.left -= 1
        place = self.write(piece)
        if self.wrong is None and (self.too_deep or counted and self.count > 120):
            self.wrong = place
        self.too_deep = False

    def put_all(self, pieces):
        for piece in pieces.split():
            self.put(piece)

    def begins(self, depth):
        """A statement or an expression begins with the next piece."""
        self.too_deep = self.too_deep or depth > 30

    def whole(self, depth):
        self.count = 0
        self.expression(depth)

    def expression(self, depth):
        self.begins(depth)
        self.two(depth)
        if self.random.random() < 0.3 and self.may_grow(depth):
            self.put("?")
            self.expression(depth + 1)
            self.put(":")
            self.expression(depth + 1)

    def may_grow(self, depth):
        return self.left > 0 and depth < 33

    def two(self, depth):
        self.behind(depth)
        while self.random.random() < self.wide and self.left > 0:
            self.put(self.random.choice(PLACES[1:]))
            self.behind(depth)

    def behind(self, depth):
        while self.random.random() < 0.2:
            self.put(self.random.choice("!~-"))
        self.closest(depth)
        while self.random.random() < 0.25:
            form = self.random.randrange(3)
            if form == 0 and self.may_grow(depth):
                self.put("[", True)
                self.expression(depth + 1)
                self.put("]")
            elif form == 1:
                self.put(".", True)
                self.put("x")
            elif form == 2:
                self.put(".", True)
                self.put("length")

    def closest(self, depth):
        form = self.random.randrange(8)
        if form >= 5 and not self.may_grow(depth):
            form = self.random.randrange(5)
        if form < 3:
            self.put(("7", "x", "0x1fu")[form], True)
        elif form == 3:
            self.put(self.random.choice(("in", "more")), True)
            self.put_all("( )")
        elif form == 4:
            self.put("f", True)
            self.put_all("( )")
        elif form == 5:
            self.call(depth)
        else:
            self.put("(", True)
            self.expression(depth + 1)
            self.put(")")

    def call(self, depth):
        self.put("f", True)
        self.put("(")
        for at in range(self.random.randrange(1, 4)):
            if at > 0:
                self.put(",")
            self.expression(depth + 1)
        self.put(")")

    def called(self, depth):
        """A call as a statement, at this depth as an expression."""
        self.count = 0
        self.begins(depth)
        brackets = self.random.choice((0, 0, 0, 1, 3))
        for at in range(brackets):
            self.put("(", True)
            self.begins(depth + 1 + at)
        self.call(depth + brackets)
        self.put_all(") " * brackets)

    def plain(self, depth):
        """An assignment or a call, with expressions of this depth."""
        if self.random.random() < 0.4:
            self.called(depth)
        else:
            self.whole(depth)
            self.put("=")
            self.whole(depth)

    def declaration(self, depth):
        self.put_all(self.random.choice(("int a", "uint b", "struct s c", "int a [ 3 ]")))
        if self.random.random() < 0.6:
            self.put("=")
            if self.random.random() < 0.5:
                self.whole(depth)
            else:
                self.put("{")
                for at in range(self.random.randrange(3)):
                    if at > 0:
                        self.put(",")
                    self.whole(depth)
                self.put("}")

    def statements(self, depth):
        while self.left > 0 and self.random.random() < 0.7:
            self.statement(depth, False)

    def statement(self, depth, alone):
        self.begins(depth)
        if depth > 31 or self.left <= 0:
            self.put_all("break ;")
            return
        forms = [
            self.braces, self.if_else, self.loop, self.do, self.for_loop, self.switch, self.plain_statement, self.small
        ]
        if not alone:
            forms.append(self.declaration_statement)
        self.random.choice(forms)(depth)

    def braces(self, depth):
        self.put("{")
        self.statements(depth + 1)
        self.put("}")

    def in_brackets(self, depth):
        self.put("(")
        self.whole(depth)
        self.put(")")

    def if_else(self, depth):
        self.put("if")
        self.in_brackets(depth + 1)
        if self.random.random() < 0.5:
            self.begins(depth + 1)
            self.braces(depth + 1)
            self.put("else")
        self.statement(depth + 1, True)

    def loop(self, depth):
        self.put("while")
        self.in_brackets(depth + 1)
        self.statement(depth + 1, True)

    def do(self, depth):
        self.put("do")
        self.begins(depth + 1)
        self.braces(depth + 1)
        self.put("while")
        self.in_brackets(depth + 1)
        self.put(";")

    def for_loop(self, depth):
        self.put_all("for (")
        form = self.random.randrange(3)
        if form == 0:
            self.declaration(depth + 1)
        elif form == 1:
            self.plain(depth + 1)
        self.put(";")
        if self.random.random() < 0.7:
            self.whole(depth + 1)
        self.put(";")
        if self.random.random() < 0.7:
            self.plain(depth + 1)
        self.put(")")
        self.statement(depth + 1, True)

    def switch(self, depth):
        self.put("switch")
        self.in_brackets(depth + 1)
        self.put("{")
        for _ in range(self.random.randrange(3)):
            self.put_all(self.random.choice(("case 1 :", "case - 2 :")))
            self.statements(depth + 1)
        if self.random.random() < 0.5:
            self.put_all("default :")
            self.statements(depth + 1)
        self.put("}")

    def plain_statement(self, depth):
        self.plain(depth + 1)
        self.put(";")

    def declaration_statement(self, depth):
        self.declaration(depth + 1)
        self.put(";")

    def small(self, depth):
        form = self.random.randrange(5)
        if form < 2:
            self.put_all(("break ;", "return ;")[form])
        elif form == 2:
            self.put("return")
            self.whole(depth + 1)
            self.put(";")
        else:
            self.put(("out", "assert")[form - 3])
            self.in_brackets(depth + 1)
            self.put(";")


def random_text(seed, begin, wide):
    """A text and the place of its first fault, None for a right one; the statements begin this deep."""
    writer = TextWriter(seed, wide)
    writer.put_all("module m ; void f ( ) {")
    writer.put_all("{ " * (begin - 1))
    writer.statements(begin)
    writer.put_all("} " * begin)
    return writer.text, writer.wrong
