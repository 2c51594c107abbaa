"""Which row of pieces a right module can begin with, by the grammar of [5] to [7] and Earley's method.

It knows nothing of the reader, and nothing of the bounds of [8].
"""

LINES = """
module: 'module NAME '; uses items
uses:
uses: uses 'use NAME ';
items:
items: items item
item: 'struct NAME '{ fields '} ';
item: kind NAME array firsts ';
item: kind NAME '( params ') '{ stmts '}
item: 'void NAME '( params ') '{ stmts '}
kind: 'int
kind: 'uint
kind: 'struct NAME
array:
array: '[ NUMBER ']
firsts:
firsts: '= e
firsts: '= '{ '}
firsts: '= '{ es '}
es: e
es: es ', e
fields:
fields: fields 'int NAME array ';
fields: fields 'uint NAME array ';
params:
params: plist
plist: param
plist: plist ', param
param: kind NAME
param: kind NAME '[ ']
stmts:
stmts: stmts stmt
stmts: stmts decl ';
decl: kind NAME array firsts
stmt: '{ stmts '}
stmt: 'if '( e ') stmt
stmt: 'if '( e ') stmt 'else stmt
stmt: 'while '( e ') stmt
stmt: 'do stmt 'while '( e ') ';
stmt: 'for '( first '; middle '; step ') stmt
stmt: 'switch '( e ') '{ cases '}
stmt: 'switch '( e ') '{ cases 'default ': stmts '}
stmt: 'break ';
stmt: 'continue ';
stmt: 'return ';
stmt: 'return e ';
stmt: 'out '( e ') ';
stmt: 'assert '( e ') ';
stmt: plain ';
first:
first: decl
first: plain
middle:
middle: e
step:
step: plain
plain: e '= e
plain: bcall
bcall: call
bcall: '( bcall ')
cases:
cases: cases 'case NUMBER ': stmts
cases: cases 'case '- NUMBER ': stmts
e: oror
e: oror '? e ': e
oror: andand
oror: oror '|| andand
andand: or
andand: andand '&& or
or: xor
or: or '| xor
xor: and
xor: xor '^ and
and: equal
and: and '& equal
equal: less
equal: equal '== less
equal: equal '!= less
less: shift
less: less '< shift
less: less '<= shift
less: less '> shift
less: less '>= shift
shift: sum
shift: shift '<< sum
shift: shift '>> sum
sum: prod
sum: sum '+ prod
sum: sum '- prod
prod: ahead
prod: prod '* ahead
prod: prod '/ ahead
prod: prod 'mod ahead
ahead: behind
ahead: '! ahead
ahead: '~ ahead
ahead: '- ahead
behind: closest
behind: behind '[ e ']
behind: behind '. NAME
behind: behind '. 'length
closest: NUMBER
closest: NAME
closest: call
closest: 'in '( ')
closest: 'more '( ')
closest: '( e ')
call: NAME '( ')
call: NAME '( es ')
"""


def _grammar():
    rules = {}
    for line in LINES.strip().split("\n"):
        left, right = line.split(":", 1) if not line.endswith(":") else (line[:-1], "")
        rules.setdefault(left, []).append(tuple(right.split()))
    return rules


RULES = _grammar()
EMPTY = {name for name, rights in RULES.items() if () in rights}


class Beginning:
    """A row of pieces with which a right module can begin."""

    def __init__(self):
        self.sets = []
        self._close([("module", right, 0, 0) for right in RULES["module"]])

    def _close(self, states):
        known = dict.fromkeys(states)
        todo = list(states)
        here = len(self.sets)
        while todo:
            left, right, dot, start = todo.pop()
            if dot == len(right):
                waiting = known if start == here else self.sets[start]
                new = [(l, r, d + 1, s) for l, r, d, s in waiting if d < len(r) and r[d] == left]
            else:
                new = [(right[dot], rest, 0, here) for rest in RULES.get(right[dot], ())]
                if right[dot] in EMPTY:
                    new.append((left, right, dot + 1, start))
            for state in new:
                if state not in known:
                    known[state] = None
                    todo.append(state)
        self.sets.append(list(known))

    def take(self, sort):
        """Go on with a piece of this sort: False if no right module goes on so."""
        want = sort if sort in ("NAME", "NUMBER") else "'" + sort
        states = [(l, r, d + 1, s) for l, r, d, s in self.sets[-1] if d < len(r) and r[d] == want]
        if not states:
            return False
        self._close(states)
        return True

    def back_to(self, many):
        """Keep only the first so many pieces."""
        del self.sets[many + 1:]

    def can_end(self):
        """Whether the pieces are a right module."""
        return any(l == "module" and d == len(r) for l, r, d, _ in self.sets[-1])
