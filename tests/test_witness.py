"""[22] to [24]: what the checker of changes lets by, and what it doesn't."""

import unittest

from trueimage.errors import BadWitness
from trueimage.witness import check_change, factor_of, is_same_by

AT = ("m", 1, 1)
OTHER = ("m", 2, 2)


def same(value):
    return (0, ((value, 1),))


def told_same(*values):
    return tuple((value, same(value)) for value in values)


def function_of(*blocks, kind="int(int,int)", slots=(4,), name="f"):
    return (name, kind, slots, tuple(blocks))


def straight(rows, end=("return", 0), ahead=(("address", 2, "g", AT), ("address", 3, 0, AT))):
    """A function of one block, with the params 0 and 1, and the addresses 2 and 3."""
    return function_of(((0, 1), ahead + tuple(rows), end))


STRAIGHT = ((0, 0, told_same(0, 1), (), ((),)),)


class CheckerCase(unittest.TestCase):
    def yes(self, old, new, witness):
        self.assertIsNone(check_change(old, new, witness))
        self.assertIs(is_same_by(old, new, witness), True)

    def no(self, old, new, witness):
        with self.assertRaises(BadWitness, msg=(new, witness)):
            check_change(old, new, witness)
        self.assertIs(is_same_by(old, new, witness), False)


class TermsTest(CheckerCase):
    def look(self, old, new, right):
        """Rows that give the value 9 from the params 0 and 1."""
        (self.yes if right else self.no)(straight(old, ("return", 9)), straight(new, ("return", 9)), STRAIGHT)

    def rows(self, *parts):
        """Rows of kinds of work: numbers are words, texts are values of one letter, x and y the params."""
        names = {"x": 0, "y": 1}
        rows = []
        for at, (name, kind, *operands) in enumerate(parts):
            found = []
            for operand in operands:
                if isinstance(operand, int):
                    found.append(20 + len(rows) + 100 * at)
                    rows.append(("const", found[-1], operand, AT))
                else:
                    found.append(names[operand])
            names[name] = 9 if at == len(parts) - 1 else 10 + at
            rows.append(("op", names[name], kind, *found, AT))
        return rows

    def test_same_sums(self):
        for one, other in (
            ([("r", "add", "x", "y")], [("r", "add", "y", "x")]),
            ([("r", "add", "x", "x")], [("r", "mul", "x", 2)]),
            ([("r", "add", "x", "x")], [("r", "shl", "x", 1)]),
            ([("r", "mul", 5, "x")], [("a", "shl", "x", 2), ("r", "add", "a", "x")]),
            ([("r", "sub", "x", 1)], [("r", "add", "x", 2 ** 32 - 1)]),
            ([("r", "sub", 0, "x")], [("r", "mul", "x", 2 ** 32 - 1)]),
            ([("a", "add", "x", "y"), ("r", "sub", "a", "x")], [("r", "add", "y", 0)]),
            ([("a", "add", "x", 3), ("b", "add", "a", "y"), ("r", "mul", "b", 4)],
             [("a", "add", "y", "x"), ("b", "shl", "a", 2), ("r", "add", 12, "b")]),
            ([("r", "shl", "x", 33)], [("r", "add", "x", "x")]),
            ([("a", "mul", "x", 2 ** 31), ("r", "add", "a", "a")], [("r", "sub", "x", "x")]),
            ([("r", "mul", "x", 0)], [("r", "sub", "y", "y")]),
        ):
            self.look(self.rows(*one), self.rows(*other), True)

    def test_same_work_of_same_terms(self):
        for kind in ("mul", "and", "or", "xor", "shl", "shr", "sar", "lts", "ltu", "eq", "divs", "rems", "divu", "remu"):
            one = self.rows(("a", "add", "x", 4), ("r", kind, "a", "y"))
            other = self.rows(("a", "sub", "x", 2 ** 32 - 4), ("r", kind, "a", "y"))
            self.look(one, other, True)
            unlike = self.rows(("a", "add", "x", 5), ("r", kind, "a", "y"))
            self.look(one, unlike, False)
            if kind not in ("mul", "and", "or", "xor", "eq"):
                self.look(self.rows(("r", kind, "x", "y")), self.rows(("r", kind, "y", "x")), False)

    def test_same_words_when_worked_out(self):
        for kind, a, b, word in (
            ("add", 2 ** 32 - 1, 2, 1), ("sub", 1, 2, 2 ** 32 - 1), ("mul", 65536, 65537, 65536), ("and", 6, 3, 2), ("or", 6, 3, 7),
            ("xor", 6, 3, 5), ("shl", 1, 35, 8), ("shr", 2 ** 31, 31, 1), ("sar", 2 ** 31, 31, 2 ** 32 - 1), ("lts", 2 ** 31, 0, 1),
            ("ltu", 2 ** 31, 0, 0), ("eq", 4, 4, 1), ("divs", 2 ** 32 - 7, 2, 2 ** 32 - 3), ("rems", 2 ** 32 - 7, 2, 2 ** 32 - 1),
            ("divu", 7, 0, 2 ** 32 - 1), ("remu", 7, 0, 7), ("divs", 2 ** 31, 2 ** 32 - 1, 2 ** 31), ("rems", 2 ** 31, 2 ** 32 - 1, 0),
        ):
            self.look(self.rows(("r", kind, a, b)), [("const", 9, word, AT)], True)
            self.look(self.rows(("r", kind, a, b)), [("const", 9, word ^ 4, AT)], False)

    def test_unlike_terms(self):
        for one, other in (
            ([("r", "add", "x", "y")], [("r", "sub", "x", "y")]), ([("r", "add", "x", "y")], [("r", "add", "x", "x")]),
            ([("r", "add", "x", 1)], [("r", "add", "x", 2)]), ([("r", "shl", "x", "y")], [("r", "mul", "x", "y")]),
            ([("r", "mul", "x", "y")], [("r", "add", "x", "y")]), ([("r", "lts", "x", "y")], [("r", "ltu", "x", "y")]),
            ([("r", "shr", "x", 1)], [("r", "sar", "x", 1)]), ([("r", "mul", "x", 2 ** 31)], [("r", "shl", "x", 30)]),
            ([("a", "shl", "x", 1), ("r", "shr", "a", 1)], [("r", "add", "x", 0)]),
            ([("a", "mul", "x", 3), ("r", "divu", "a", 3)], [("r", "add", "x", 0)]),
        ):
            self.look(self.rows(*one), self.rows(*other), False)

    def test_addresses(self):
        def loads(*rows):
            return list(rows) + [("load", 9, 8, 1, AT)]

        two = ("const", 7, 2, AT)
        for old, new, right in (
            (loads(("index", 8, 2, 0, 4, AT)), [("index", 6, 2, 0, 2, AT), ("index", 8, 6, 0, 2, AT), ("load", 9, 8, 1, AT)], True),
            (loads(two, ("index", 8, 2, 7, 3, AT)), [("load", 9, 2, 7, AT)], True),
            (loads(two, ("index", 8, 2, 7, 3, AT)), [("load", 9, 2, 6, AT)], False),
            (loads(two, ("index", 8, 2, 7, 3, AT)), [("load", 9, 3, 7, AT)], False),
            (loads(("index", 8, 2, 0, 4, AT)), [("index", 8, 2, 1, 4, AT), ("load", 9, 8, 1, AT)], False),
            (loads(("index", 8, 2, 0, 4, AT)), [("index", 8, 2, 0, 3, AT), ("load", 9, 8, 1, AT)], False),
            # Words behind an address count modulo 2 to the 30th power.
            (loads(("const", 7, 2 ** 30 - 1, AT), ("index", 8, 2, 7, 1, AT)), [("load", 9, 2, 0, AT)], True),
            (loads(("const", 7, 2 ** 30, AT), ("op", 6, "mul", 7, 0, AT), ("index", 8, 2, 6, 1, AT)), [("load", 9, 2, 1, AT)], True),
            (loads(("const", 7, 2 ** 29, AT), ("op", 6, "mul", 7, 0, AT), ("index", 8, 2, 6, 1, AT)), [("load", 9, 2, 1, AT)], False),
        ):
            self.look(old, new, right)


EFFECTS = (
    ("check", 1, "bounds", AT), ("store", 2, 1, 1, AT), ("call", 5, "f", (0, 1), 2, AT), ("enter", 3, AT), ("out", 1, AT), ("in", 5, AT),
    ("more", 5, AT),
)
# For each effect the rows that are unlike it in one thing.
UNLIKE = (
    (("check", 1, "bounds", OTHER), ("check", 1, "zero", AT), ("check", 0, "bounds", AT)),
    (("store", 2, 1, 1, OTHER), ("store", 2, 2, 1, AT), ("store", 3, 1, 1, AT), ("store", 2, 1, 0, AT)),
    (("call", 5, "f", (0, 1), 2, OTHER), ("call", 5, "f", (0, 1), 3, AT), ("call", 5, "h", (0, 1), 2, AT), ("call", 5, "f", (1, 0), 2, AT),
     ("call", 5, "f", (0,), 2, AT)),
    (("enter", 3, OTHER), ("enter", 2, AT)),
    (("out", 1, OTHER), ("out", 0, AT)),
    (("in", 5, OTHER), ("more", 5, AT)),
    (("more", 5, OTHER), ("in", 5, AT)),
)


class EffectsTest(CheckerCase):
    def test_each_effect(self):
        for row, unlike in zip(EFFECTS, UNLIKE):
            old = straight([row])
            self.yes(old, old, STRAIGHT)
            for other in unlike:
                self.no(old, straight([other]), STRAIGHT)
            self.no(old, straight([]), STRAIGHT)
            self.no(straight([]), old, STRAIGHT)
            if row[0] != "check":
                twice = row if row[0] in ("store", "enter", "out") else (row[0], 6) + row[2:]
                self.no(old, straight([row, twice]), STRAIGHT)
                self.no(straight([row, twice]), old, STRAIGHT)

    def test_order(self):
        for one in EFFECTS:
            for other in EFFECTS:
                if one != other:
                    if other[0] in ("call", "in", "more"):
                        other = (other[0], 6) + other[2:]
                    self.no(straight([one, other]), straight([other, one]), STRAIGHT)
                    self.yes(straight([one, other]), straight([one, ("const", 7, 7, AT), other]), STRAIGHT)

    def test_what_effects_give(self):
        for sort in ("in", "more"):
            old = straight([(sort, 5, AT), (sort, 6, AT)], ("return", 5))
            self.yes(old, straight([(sort, 6, AT), (sort, 5, AT)], ("return", 6)), STRAIGHT)
            self.no(straight([("in", 5, AT), ("in", 6, AT)], ("return", 5)), straight([("in", 5, AT), ("in", 6, AT)], ("return", 6)), STRAIGHT)
        call = ("call", 5, "f", (0, 1), 1, AT)
        old = straight([call], ("return", 5))
        self.yes(old, old, STRAIGHT)
        self.no(old, straight([call], ("return", 0)), STRAIGHT)

    def test_ends(self):
        def ended(end, slots=()):
            return function_of(((0, 1), (), end), slots=slots)

        for end, unlike in (
            (("return", 0), (("return", 1), ("trap", "zero", AT))),
            (("trap", "zero", AT), (("trap", "told", AT), ("trap", "zero", OTHER), ("return", 0))),
            (("tail", "f", (0, 1), 2, AT),
             (("tail", "h", (0, 1), 2, AT), ("tail", "f", (1, 0), 2, AT), ("tail", "f", (0,), 2, AT), ("tail", "f", (0, 1), 3, AT),
              ("tail", "f", (0, 1), 2, OTHER), ("return", 0))),
        ):
            self.yes(ended(end), ended(end), STRAIGHT)
            for other in unlike:
                self.no(ended(end), ended(other), STRAIGHT)

    def test_checks_left_out(self):
        sure = [("const", 5, 3, AT), ("check", 5, "zero", AT)]
        self.yes(straight(sure), straight([]), STRAIGHT)
        self.yes(straight([]), straight(sure), STRAIGHT)
        once, twice = [("check", 0, "zero", AT)], [("check", 0, "zero", AT), ("check", 0, "told", OTHER)]
        self.yes(straight(twice), straight(once), STRAIGHT)
        self.yes(straight(once), straight(twice), STRAIGHT)
        self.no(straight(twice), straight(twice[1:]), STRAIGHT)
        self.no(straight(once), straight([]), STRAIGHT)
        # It was checked on this way: the second one is left out though other effects stand between.
        between = [once[0], ("in", 5, AT), ("out", 5, AT), ("check", 0, "told", OTHER)]
        self.yes(straight(between), straight(between[:3]), STRAIGHT)

    def test_check_that_always_fails(self):
        fails = [("const", 5, 0, AT), ("check", 5, "zero", AT)]
        behind = fails + [("out", 0, AT)]
        self.yes(straight(behind), straight(fails + [("in", 6, OTHER)], ("return", 1)), STRAIGHT)
        self.no(straight(behind), straight([]), STRAIGHT)
        self.no(straight(behind), straight([("const", 5, 0, AT), ("check", 5, "zero", OTHER)]), STRAIGHT)
        self.no(straight(behind), straight([("out", 0, AT)] + fails), STRAIGHT)
        self.no(straight(behind), straight([("const", 5, 1, AT), ("check", 5, "zero", AT), ("out", 0, AT)]), STRAIGHT)
        # Where both end, it doesn't matter what would come behind.
        goes = function_of(((0, 1), tuple(fails), ("go", 1, ())), ((), (), ("return", 0)))
        other = function_of(((0, 1), tuple(fails), ("if", 0, 1, (), 2, ())), ((), (), ("return", 1)), ((), (), ("return", 0)))
        witness = ((0, 0, told_same(0, 1), (), ((0,), (0,))), (1, 0, told_same(0), (), ((),)), (1, 0, told_same(0), (), ((),)))
        self.no(goes, other, witness)
        self.yes(goes, other, (witness[0], (1, 0, ((0, same(0)), (1, same(0))), (), ((),)), witness[2]))


class LoadsTest(CheckerCase):
    LOAD = ("load", 9, 2, 1, AT)

    def look(self, old, new, right, end=("return", 9)):
        (self.yes if right else self.no)(straight(old, end), straight(new, end), STRAIGHT)

    def test_same_load(self):
        self.look([self.LOAD], [self.LOAD], True)
        self.look([self.LOAD], [("load", 9, 2, 1, OTHER)], True)
        for other in (("load", 9, 2, 2, AT), ("load", 9, 3, 1, AT)):
            self.look([self.LOAD], [other], False)

    def test_loaded_ahead(self):
        again = ("load", 8, 2, 1, AT)
        self.look([self.LOAD, again], [self.LOAD], True)
        self.look([self.LOAD], [again, self.LOAD], True)
        sums = [self.LOAD, again, ("op", 7, "add", 9, 8, AT)]
        self.look(sums, [self.LOAD, ("op", 7, "add", 9, 9, AT)], True, ("return", 7))
        for between in (("out", 0, AT), ("in", 6, AT), ("check", 0, "zero", AT), ("enter", 1, AT), ("more", 6, AT)):
            self.look([self.LOAD, between, again], [self.LOAD, between], True)
            self.look([self.LOAD, between, again, ("out", 8, AT)], [self.LOAD, between, ("out", 9, AT)], True)

    def test_over_stores_and_calls(self):
        for between in (("store", 2, 0, 0, AT), ("store", 3, 0, 0, AT), ("call", 6, "f", (0, 1), 1, AT)):
            self.look([self.LOAD, between], [self.LOAD, between], True)
            self.look([self.LOAD, between], [between, self.LOAD], False)
            self.look([between, self.LOAD], [self.LOAD, between], False)
            again = ("load", 8, 2, 1, AT)
            self.look([self.LOAD, between, again, ("out", 8, AT)], [self.LOAD, between, ("out", 9, AT)], False)
            self.look([again, between, self.LOAD], [again, between, ("op", 9, "add", 8, 8, AT)], False)

    def test_with_as_many_effects_ahead(self):
        check = ("check", 0, "zero", AT)
        self.look([self.LOAD, check], [check, self.LOAD], True)
        self.look([check, self.LOAD], [self.LOAD, check], False)
        call = ("call", 6, "f", (0, 1), 1, AT)
        self.look([call, self.LOAD], [self.LOAD, call], False)
        self.look([("in", 6, AT), self.LOAD], [self.LOAD, ("in", 6, AT)], False)

    def test_only_what_the_old_way_made(self):
        self.look([("const", 9, 1, AT)], [("const", 9, 1, AT), ("load", 8, 2, 0, AT)], False)
        self.look([self.LOAD], [self.LOAD, ("load", 8, 2, 0, AT)], False)
        # One that is made on one of two ways alone can't be made ahead of both.
        load = ("load", 9, 2, 1, AT)
        address = ("address", 2, "g", AT)
        old = function_of(((0, 1), (address,), ("if", 0, 1, (), 2, ())), ((), (load,), ("return", 9)), ((), (), ("return", 0)))
        new = function_of(((0, 1), (address, load), ("if", 0, 1, (), 2, ())), ((), (), ("return", 9)), ((), (), ("return", 0)))
        entries = ((0, 0, told_same(0, 1), (), ((0,), (1,))), (1, 0, told_same(0, 2), (), ((),)), (2, 0, told_same(0), (), ((),)))
        self.yes(old, old, entries)
        self.no(old, new, entries)


LOOP = function_of(
    ((0, 1), (("const", 2, 0, AT),), ("go", 1, (2, 2))),
    ((3, 4), (("op", 5, "lts", 3, 0, AT),), ("if", 5, 2, (), 3, ())),
    ((), (("const", 6, 1, AT), ("op", 7, "add", 3, 6, AT), ("const", 8, 4, AT), ("op", 9, "mul", 3, 8, AT), ("out", 9, AT)), ("go", 1, (7, 9))),
    ((), (), ("return", 4)), slots=())
# Four times the counter is kept in the place of the counter, which is left out.
FASTER = function_of(
    ((0, 1), (("const", 2, 0, AT), ("const", 8, 4, AT)), ("go", 1, (2, 2, 2))),
    ((3, 4, 10), (("op", 5, "lts", 3, 0, AT),), ("if", 5, 2, (), 3, ())),
    ((), (("const", 6, 1, AT), ("op", 7, "add", 3, 6, AT), ("out", 10, AT), ("op", 11, "add", 10, 8, AT)), ("go", 1, (7, 10, 11))),
    ((), (), ("return", 4)), slots=())
TIMES = (10, (0, ((3, 4),)))
IS_FOUR = (8, (4, ()))
FASTER_WITNESS = (
    (0, 0, told_same(0, 1), (), ((0,),)),
    (1, 0, told_same(0, 3, 4) + (TIMES, IS_FOUR), (), ((0,), (1,))),
    (2, 0, told_same(0, 3, 4) + (TIMES, IS_FOUR), (), ((0,),)),
    (3, 0, told_same(4), (), ((),)),
)


def changed(witness, block, part, told):
    """A witness with another part told for a block."""
    entry = witness[block]
    entry = entry[:part] + (told,) + entry[part + 1:]
    return witness[:block] + (entry,) + witness[block + 1:]


class ToldTest(CheckerCase):
    def test_sums_of_old_values(self):
        self.yes(LOOP, FASTER, FASTER_WITNESS)

    def test_sums_that_are_not_so(self):
        for told in ((10, (0, ((3, 5),))), (10, (1, ((3, 4),))), (10, (0, ())), (10, same(4)), (10, (0, ((3, 4), (0, 1)))), (8, (5, ())), (8, same(0))):
            for block in (1, 2):
                self.no(LOOP, FASTER, changed(FASTER_WITNESS, block, 2, FASTER_WITNESS[block][2] + (told,)))
        # What isn't told isn't known.
        for block in (1, 2):
            told = tuple(pair for pair in FASTER_WITNESS[block][2] if pair != TIMES)
            self.no(LOOP, FASTER, changed(FASTER_WITNESS, block, 2, told))
        self.yes(LOOP, FASTER, changed(FASTER_WITNESS, 3, 2, told_same(4)))
        self.no(LOOP, FASTER, changed(FASTER_WITNESS, 3, 2, ()))

    def test_sums_in_other_forms(self):
        for told in ((0, ((3, 1), (3, 3))), (0, ((3, 4), (0, 0))), (0, ((3, 5), (3, 2 ** 32 - 1)))):
            self.yes(LOOP, FASTER, changed(FASTER_WITNESS, 1, 2, told_same(0, 3, 4) + ((10, told), IS_FOUR)))

    def test_what_can_be_told(self):
        # New values that aren't given ahead of the block's rows, and old ones that aren't ahead of the stand's.
        for told in ((5, same(5)), (7, same(3)), (11, same(3)), (3, same(5)), (3, same(7)), (99, same(3)), (3, same(99))):
            self.no(LOOP, FASTER, changed(FASTER_WITNESS, 1, 2, FASTER_WITNESS[1][2] + (told,)))
        # At block 2 the old value 5 is known, as is the new one.
        self.yes(LOOP, FASTER, changed(FASTER_WITNESS, 2, 2, FASTER_WITNESS[2][2] + ((5, same(5)),)))
        self.no(LOOP, FASTER, changed(FASTER_WITNESS, 2, 2, FASTER_WITNESS[2][2] + ((5, same(3)),)))

    def test_beginning(self):
        self.yes(LOOP, FASTER, changed(FASTER_WITNESS, 0, 2, told_same(0)))
        for told in (((0, same(1)),), ((0, (1, ((0, 1),))),), ((2, (0, ())),), ((0, (0, ((0, 2),))),), ((1, (0, ())),)):
            self.no(LOOP, FASTER, changed(FASTER_WITNESS, 0, 2, told))
        self.no(LOOP, FASTER, changed(FASTER_WITNESS, 0, 0, 1))
        self.no(LOOP, FASTER, changed(FASTER_WITNESS, 0, 3, ((0, same(1)),)))
        self.yes(LOOP, FASTER, changed(FASTER_WITNESS, 0, 1, 1000))

    def test_stands_and_ways(self):
        for block, part, told in (
            (1, 0, 2), (1, 0, 0), (2, 0, 1), (3, 0, 2), (1, 4, ((1,), (0,))), (1, 4, ((0,), (0,))), (1, 4, ((0,), (1, 0))),
            (0, 4, ((1,),)), (0, 4, ((),)), (0, 4, ((0, 0),)), (2, 4, ((0, 0),)), (2, 4, ((),)), (3, 4, ((0,),)), (3, 4, ((0, 0),)),
            (1, 4, ((0,),)), (1, 4, ((0,), (1,), (1,))), (0, 4, ()), (1, 4, ((0,), None)), (1, 4, ((0,), (True,))), (1, 4, ((0,), (2,))),
        ):
            self.no(LOOP, FASTER, changed(FASTER_WITNESS, block, part, told))

    def test_addresses_are_told_alone(self):
        address = ("address", 2, "g", AT)
        old = function_of(((0, 1), (address,), ("go", 1, ())), ((), (("store", 2, 0, 1, AT),), ("return", 0)))
        for told, right in ((same(2), True), ((1, ((2, 1),)), False), ((0, ((2, 2),)), False), ((0, ((2, 1), (0, 0))), False), (same(0), False)):
            witness = ((0, 0, told_same(0, 1), (), ((0,),)), (1, 0, told_same(0, 1) + ((2, told),), (), ((),)))
            (self.yes if right else self.no)(old, old, witness)
        self.no(old, old, ((0, 0, told_same(0, 1), (), ((0,),)), (1, 0, told_same(1, 2) + ((0, same(2)),), (), ((),))))
        # It need not be told: the row that gives it tells it.
        self.yes(old, old, ((0, 0, told_same(0, 1), (), ((0,),)), (1, 0, told_same(0, 1), (), ((),))))


# The params 3 and 4 are always handed the same, and so is 5 by the loaded word.
ALIKE_OLD = function_of(
    ((0, 1), (("address", 2, "g", AT), ("load", 6, 2, 0, AT), ("load", 7, 2, 0, AT)), ("go", 1, (0, 0))),
    ((3, 4), (("op", 5, "add", 3, 4, AT), ("out", 5, AT)), ("if", 1, 1, (3, 4), 2, ())),
    ((), (("op", 8, "add", 6, 7, AT), ("out", 8, AT)), ("return", 4)), slots=())
ALIKE_NEW = function_of(
    ((0, 1), (("address", 2, "g", AT), ("load", 6, 2, 0, AT)), ("go", 1, ())),
    ((), (("op", 5, "add", 0, 0, AT), ("out", 5, AT)), ("if", 1, 1, (), 2, ())),
    ((), (("op", 8, "add", 6, 6, AT), ("out", 8, AT)), ("return", 0)), slots=())
ALIKE = ((3, same(0)), (4, same(3)), (7, same(6)))
ALIKE_WITNESS = (
    (0, 0, told_same(0, 1), (), ((0,),)), (1, 0, told_same(0, 1, 6), ALIKE, ((0,), (1,))), (2, 0, told_same(0, 6), ALIKE, ((),)),
)


class AlikeTest(CheckerCase):
    def test_old_leaves_told_by_others(self):
        self.yes(ALIKE_OLD, ALIKE_NEW, ALIKE_WITNESS)
        self.yes(ALIKE_OLD, ALIKE_NEW, changed(ALIKE_WITNESS, 1, 3, ((4, same(0)), (3, same(4)), (7, same(6)))))
        self.yes(ALIKE_OLD, ALIKE_NEW, changed(ALIKE_WITNESS, 1, 3, ((3, same(0)), (4, (0, ((0, 2), (3, 2 ** 32 - 1)))), (7, same(6)))))

    def test_what_must_be_told(self):
        for block in (1, 2):
            for left_out in ALIKE:
                told = tuple(pair for pair in ALIKE if pair != left_out)
                if block == 1 or left_out[0] != 3:
                    self.no(ALIKE_OLD, ALIKE_NEW, changed(ALIKE_WITNESS, block, 3, told))

    def test_what_is_not_so(self):
        for told in ((3, same(1)), (4, (1, ((0, 1),))), (7, same(0)), (3, (0, ()))):
            self.no(ALIKE_OLD, ALIKE_NEW, changed(ALIKE_WITNESS, 1, 3, ALIKE + (told,)))

    def test_what_can_be_told(self):
        # No leaf, by itself, not given ahead, of another sort.
        for told in ((2, same(2)), (5, same(0)), (3, same(3)), (3, (0, ((3, 1), (0, 0)))), (8, same(0)), (3, same(5)), (3, same(2)), (99, same(0)), (3, same(99))):
            self.no(ALIKE_OLD, ALIKE_NEW, changed(ALIKE_WITNESS, 1, 3, ALIKE + (told,)))


class TurnsTest(CheckerCase):
    def branching(self, test, first=1, second=2, more=()):
        return function_of(
            ((0, 1), tuple(more), ("if", test, first, (), second, ())), ((), (("out", 0, AT),), ("return", 0)), ((), (), ("return", 1)))

    def witness(self, first, second, ways=((0,), (1,))):
        return ((0, 0, told_same(0, 1), (), ways), (first, 0, told_same(0, 1), (), ((),)), (second, 0, told_same(0, 1), (), ((),)))

    def test_the_other_turn(self):
        old = self.branching(0)
        self.yes(old, old, self.witness(1, 2))
        denied = [("const", 5, 0, AT), ("op", 6, "eq", 0, 5, AT)]
        turned = self.branching(6, more=denied)
        swapped = turned[:3] + ((turned[3][0], turned[3][2], turned[3][1]),)
        self.yes(old, swapped, self.witness(2, 1, ((1,), (0,))))
        self.no(old, turned, self.witness(1, 2))
        self.no(old, turned, self.witness(1, 2, ((1,), (0,))))
        twice = denied + [("op", 7, "eq", 5, 6, AT)]
        self.yes(old, self.branching(7, more=twice), self.witness(1, 2))
        self.yes(self.branching(7, more=twice), old, self.witness(1, 2))
        self.yes(swapped, old, ((0, 0, told_same(0, 1), (), ((1,), (0,))), (2, 0, told_same(0, 1), (), ((),)), (1, 0, told_same(0, 1), (), ((),))))

    def test_turns_on_another_term(self):
        old = self.branching(0)
        self.no(old, self.branching(1), self.witness(1, 2))
        more = [("const", 5, 1, AT), ("op", 6, "eq", 0, 5, AT)]
        self.no(old, self.branching(6, more=more), self.witness(1, 2))
        self.yes(self.branching(6, more=more), self.branching(6, more=[more[0], ("op", 6, "eq", 5, 0, AT)]), self.witness(1, 2))

    def test_a_side_taken_wrongly(self):
        old = self.branching(0)
        for ways in (((0,), (0,)), ((1,), (1,)), ((1,), (0,))):
            self.no(old, old, self.witness(1, 2, ways))
        same_blocks = old[:3] + ((old[3][0], old[3][1], old[3][1]),)
        self.no(old, same_blocks, self.witness(1, 1, ((0,), (0,))))

    def test_turns_that_are_never_taken(self):
        for word, side in ((0, 1), (7, 0)):
            known = [("const", 5, word, AT)]
            old = self.branching(5, more=known)
            goes = function_of(((0, 1), (), ("go", 1, ())), old[3][1 + side])
            self.yes(old, goes, ((0, 0, told_same(0, 1), (), ((side,),)), (1 + side, 0, told_same(0, 1), (), ((),))))
            self.no(old, goes, ((0, 0, told_same(0, 1), (), ((1 - side,),)), (2 - side, 0, told_same(0, 1), (), ((),))))
            for way in ((), (0,), (1,), (1, 1, 1), None, 5):
                ways = [way, way]
                ways[side] = (side,)
                self.yes(old, old, self.witness(1, 2, tuple(ways)))
            self.no(old, old, self.witness(1, 2, ((1 - side,), (1 - side,))))

    def test_turns_on_what_was_checked_or_loaded(self):
        more = [("check", 0, "told", AT)]
        old = self.branching(0, more=more)
        self.yes(old, old, self.witness(1, 2, ((0,), ())))
        goes = function_of(((0, 1), tuple(more), ("go", 1, ())), old[3][1])
        self.yes(old, goes, ((0, 0, told_same(0, 1), (), ((0,),)), (1, 0, told_same(0, 1), (), ((),))))
        # A check that stands behind the turn tells nothing of it.
        later = function_of(((0, 1), (), ("if", 0, 1, (), 2, ())), ((), tuple(more), ("return", 0)), ((), tuple(more), ("return", 1)))
        goes = function_of(((0, 1), tuple(more), ("return", 0)))
        self.no(later, goes, ((0, 0, told_same(0, 1), (), ((0,),)),))
        loads = [("address", 5, "g", AT), ("load", 6, 5, 0, AT), ("load", 7, 5, 0, AT), ("op", 8, "ltu", 6, 7, AT)]
        old = self.branching(8, more=loads)
        self.yes(old, old, self.witness(1, 2))
        self.yes(old, old, self.witness(1, 2, ((), (1,))))

    def test_a_check_of_the_new_one_is_not_left_out_for_its_turn(self):
        old = function_of(((0, 1), (), ("if", 0, 1, (), 2, ())), ((), (), ("return", 0)), ((), (), ("return", 1)))
        new = function_of(((0, 1), (("check", 0, "told", AT),), ("if", 0, 1, (), 2, ())), ((), (), ("return", 0)), ((), (), ("return", 1)))
        for ways in (((0,), (1,)), ((0,), ()), ((0,), None)):
            self.no(old, new, self.witness(1, 2, ways))

    def test_jumps_led_on(self):
        old = function_of(
            ((0, 1), (), ("if", 0, 1, (), 2, ())), ((), (("const", 5, 1, AT),), ("go", 3, (5,))), ((), (("const", 6, 0, AT),), ("go", 3, (6,))),
            ((7,), (), ("if", 7, 4, (), 5, ())), ((), (("out", 1, AT),), ("return", 0)), ((), (), ("return", 1)))
        new = function_of(((0, 1), (), ("if", 0, 1, (), 2, ())), ((), (("out", 1, AT),), ("return", 0)), ((), (), ("return", 1)))
        self.yes(old, new, self.witness(4, 5, ((0, 0, 0), (1, 0, 1))))
        self.no(old, new, self.witness(5, 4, ((0, 0, 0), (1, 0, 1))))
        self.no(old, new, self.witness(4, 5, ((0, 0, 1), (1, 0, 0))))


class RanksTest(CheckerCase):
    OLD = function_of(((0, 1), (("out", 0, AT),), ("return", 1)), slots=())

    def split(self, many, ring=False):
        """The old function with so many empty blocks ahead; in a ring they never come to an end."""
        blocks = [((0, 1), (), ("go", 1, ()))]
        for at in range(1, many):
            blocks.append(((), (), ("go", at + 1, ())))
        blocks.append(((), (), ("go", 1, ())) if ring else ((), (("out", 0, AT),), ("return", 1)))
        return function_of(*blocks, slots=())

    def witness(self, ranks):
        return tuple((0, rank, told_same(0, 1), (), ((),)) for rank in ranks)

    def test_ranks_fall(self):
        new = self.split(3)
        self.yes(self.OLD, new, self.witness((3, 2, 1, 0)))
        self.yes(self.OLD, new, self.witness((1000, 9, 8, 0)))
        for ranks in ((0, 0, 0, 0), (3, 2, 2, 0), (3, 3, 1, 0), (3, 2, 1, 1), (0, 1, 2, 3), (3, 2, 0, 1), (1001, 2, 1, 0), (3, 2, 1, -1), (3, 2, True, 0)):
            self.no(self.OLD, new, self.witness(ranks))

    def test_rings(self):
        for many in (1, 2, 3):
            new = self.split(many, ring=True)
            for ranks in (range(many, -1, -1), [0] * (many + 1), range(many + 1)):
                self.no(self.OLD, new, self.witness(tuple(ranks)))

    def test_an_empty_way_has_no_effects(self):
        new = function_of(((0, 1), (("out", 0, AT),), ("go", 1, ())), ((), (), ("return", 1)), slots=())
        for ranks in ((1, 0), (0, 0)):
            self.no(self.OLD, new, self.witness(ranks))

    def test_factors(self):
        self.assertGreaterEqual(factor_of(self.OLD, STRAIGHT), 1)
        for many in range(1, 9):
            # So many blocks more, each a step.
            factor = factor_of(self.split(many), self.witness(tuple(range(many, -1, -1))))
            self.assertGreaterEqual(factor * 2 + factor, many + 2)


class RoundsTest(CheckerCase):
    """Ways that go through the same old blocks more than once."""

    def test_two_rounds_in_one(self):
        old = function_of(
            ((0,), (("const", 1, 0, AT),), ("go", 1, (1,))), ((2,), (("op", 3, "lts", 2, 0, AT),), ("if", 3, 2, (), 3, ())),
            ((), (("out", 2, AT), ("const", 4, 1, AT), ("op", 5, "add", 2, 4, AT)), ("go", 1, (5,))), ((), (), ("return", 2)), kind="int(int)", slots=())
        new = function_of(
            ((0,), (("const", 1, 0, AT),), ("go", 1, (1,))), ((2,), (("op", 3, "lts", 2, 0, AT),), ("if", 3, 2, (), 4, (2,))),
            ((), (("out", 2, AT), ("const", 4, 1, AT), ("op", 5, "add", 2, 4, AT), ("op", 6, "lts", 5, 0, AT)), ("if", 6, 3, (), 4, (5,))),
            ((), (("out", 5, AT), ("const", 7, 2, AT), ("op", 8, "add", 2, 7, AT)), ("go", 1, (8,))), ((9,), (), ("return", 9)), kind="int(int)", slots=())
        witness = (
            (0, 0, told_same(0), (), ((0,),)), (1, 0, told_same(0, 2), (), ((0,), (1,))), (2, 0, told_same(0, 2), (), ((0, 0), (0, 1))),
            (2, 0, told_same(0) + ((5, same(2)), (2, (2 ** 32 - 1, ((2, 1),)))), (), ((0,),)), (3, 0, ((9, same(2)),), (), ((),)))
        self.yes(old, new, witness)
        self.no(old, new, changed(witness, 3, 2, told_same(0) + ((5, same(2)), (2, same(2)))))
        self.no(old, new, changed(witness, 2, 4, ((0, 0, 0), (0, 1))))
        self.no(old, new, changed(witness, 2, 4, ((0, 0), (0, 0))))

    def test_all_rounds_in_one_block(self):
        rows = (("out", 1, AT), ("const", 2, 1, AT), ("op", 3, "sub", 1, 2, AT), ("const", 4, 2, AT), ("op", 5, "eq", 1, 4, AT))
        old = function_of(((), (("const", 0, 3, AT),), ("go", 1, (0,))), ((1,), rows, ("if", 5, 2, (), 1, (3,))), ((), (), ("return", 1)), kind="int()")
        new = function_of(((), (("const", 0, 3, AT), ("out", 0, AT), ("const", 1, 2, AT), ("out", 1, AT)), ("return", 1)), kind="int()")
        self.yes(old, new, ((0, 0, (), (), ((0, 1, 0),)),))
        for way in ((0, 0), (0, 1), (0, 1, 1, 0), (0,), ()):
            self.no(old, new, ((0, 0, (), (), (way,)),))

    def test_a_leaf_that_is_given_anew(self):
        taken = (("in", 0, AT), ("out", 0, AT))
        old = function_of(((), (), ("go", 1, ())), ((), taken, ("if", 0, 1, (), 2, ())), ((), (), ("return", 0)), kind="int()")
        new = function_of(
            ((), (), ("go", 1, ())), ((), taken, ("if", 0, 2, (), 3, (0,))), ((), (("in", 1, AT), ("out", 1, AT)), ("if", 1, 1, (), 3, (1,))),
            ((5,), (), ("return", 5)), kind="int()")
        witness = ((0, 0, (), (), ((0,),)), (1, 0, (), (), ((0,), (1,))), (1, 0, (), (), ((0,), (1,))), (2, 0, ((5, same(0)),), (), ((),)))
        self.yes(old, new, witness)
        self.no(old, new, changed(witness, 3, 2, ((5, same(0)), (0, same(0)))))


class FormsTest(CheckerCase):
    def test_values_that_are_no_witness(self):
        old = self_same = straight([("out", 0, AT)])
        self.yes(old, self_same, STRAIGHT)
        entry = STRAIGHT[0]
        for thing in (
            None, 5, (), [entry], (entry, entry), (None,), (5,), ([*entry],), (entry[:4],), (entry + (0,),), "w", {}, ((),),
            ((None,) + entry[1:],), ((True,) + entry[1:],), ((-1,) + entry[1:],), ((1,) + entry[1:],), (("0",) + entry[1:],),
            ((0, None) + entry[2:],), ((0, -1) + entry[2:],), ((0, 1001) + entry[2:],), ((0, False) + entry[2:],),
        ):
            self.no(old, self_same, thing)
        for told in (None, 5, [], [(0, same(0))], ((0,),), (0,), (None,), ((0, None),), ((0, (0,)),), ((0, [0, ()]),), ((0, (0, [])),), ((0, (0, (0,))),),
                     ((0, (0, ((0,),))),), ((0, (0, ([0, 1],))),), ((0, (-1, ())),), ((0, (2 ** 32, ())),), ((0, (True, ())),), ((0, (0, ((0, 2 ** 32),))),),
                     ((0, (0, ((0, -1),))),), ((0, (0, ((0, True),))),), ((True, same(0)),), ((None, same(0)),), (([0], same(0)),), ((0, (0, ((None, 1),))),)):
            self.no(old, self_same, ((0, 0, told, (), ((),)),))
            self.no(old, self_same, ((0, 0, told_same(0, 1), told if told != [] else 5, ((),)),))
        for ways in (None, (), [()], ((), ()), (None,), ([],), ((0,),), ((None,),), 5):
            self.no(old, self_same, ((0, 0, told_same(0, 1), (), ways),))

    def test_new_functions_that_are_not_well_formed(self):
        old = straight([("out", 0, AT)])
        for new in (None, (), 5, straight([("out", 77, AT)]), old[:3], old[:3] + ((),), list(old)):
            self.no(old, new, STRAIGHT)

    def test_name_kind_and_slots(self):
        old = function_of(((0, 1), (), ("return", 0)))
        self.yes(old, old, STRAIGHT)
        for new in (("g",) + old[1:], (old[0], "uint(int,int)") + old[2:], old[:2] + ((5,),) + old[3:], old[:2] + ((),) + old[3:]):
            self.no(old, new, STRAIGHT)

    def test_blocks_that_cannot_be_come_to(self):
        old = straight([("out", 0, AT)])
        new = old[:3] + (old[3] + (((), (), ("return", 77)),),)
        self.yes(old, new, STRAIGHT + (None,))
        self.yes(new, new, STRAIGHT + (None,))
        self.no(old, new, STRAIGHT)
        self.no(old, new, (None,) + STRAIGHT)


if __name__ == "__main__":
    unittest.main()
