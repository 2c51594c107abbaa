"""Which slot, and how many bytes behind its beginning, an address always is, also through params of blocks [41]."""

from trueimage.kindtexts import ADDRESS
from trueimage.middlerows import hands
from trueimage.words import word_of

BYTES = 4
# Of a param for which nothing was handed yet, as far as it was looked.
UNSEEN = ()


class SlotRoots:
    """The addresses of a function that are always the same place of a slot."""

    def __init__(self, facts):
        self.facts = facts
        # For each param of an address the slot and the bytes, or None if it isn't always the same.
        self.params = {param: None for param in facts.blocks[0][0]}
        handed = self._handed() if facts.function[2] != () else []
        changed = True
        while changed:
            changed = False
            for param, arg in handed:
                if self._hand(param, self._root_by_now(arg)):
                    changed = True

    def _handed(self):
        """Pairs of a param and what is handed for it, of addresses alone."""
        facts = self.facts
        found = []
        for number in facts.flow.order:
            for goal, args in hands(facts.blocks[number][2]):
                pairs = list(zip(facts.blocks[goal][0], args))
                found.extend([(param, arg) for param, arg in pairs if facts.sorts[param] == ADDRESS])
        return found

    def _hand(self, param, root):
        """An address is handed for a param: whether that tells something new."""
        known = self.params.get(param, UNSEEN)
        if root == UNSEEN or known == root or known is None:
            return False
        self.params[param] = root if known == UNSEEN else None
        return True

    def root(self, value):
        """The slot and the bytes behind its beginning that an address always is, or None."""
        return self._root_by_now(value) or None

    def _root_by_now(self, value):
        """Likewise, as far as params were looked at."""
        behind = 0
        row = self.facts.row_of(value)
        while row is not None and row[0] == "index":
            by = self.facts.row_of(row[3])
            if by is None or by[0] != "const":
                return None
            behind += BYTES * row[4] * by[2]
            value = row[2]
            row = self.facts.row_of(value)
        if row is not None:
            return None if isinstance(row[2], str) else (row[2], word_of(behind))
        root = self.params.get(value, UNSEEN)
        return (root[0], word_of(root[1] + behind)) if root else root
