"""The walk over the code of a function [49].

It goes on at each word with what holds on all ways that come there: what is known where ways come together only gets
less, so it comes to an end. A store by another register than sp that is known to reach the frame is found by a walk for
which it reaches objects alone; then the walk is made once more.
"""

from trueimage.codestates import NUMBER, CodeState, worked_out
from trueimage.forms import FORMS, decode
from trueimage.frames import ARGS, RA, SP
from trueimage.instructiondeeds import SIZES
from trueimage.patches import goes_with
from trueimage.units import IS_GLOBAL
from trueimage.words import word_of

BYTES = 4
# Registers into which nobody puts anything.
NEVER_CHANGED = (3, 4)


class CodeWalk:
    """The walk over the code of one function of an object."""

    def __init__(self, thing, name):
        starts = [told[3] for told in thing[3]]
        self.first = [told[3] for told in thing[3] if told[0] == name][0]
        self.stop = min([start for start in starts if start > self.first] + [len(thing[1])])
        self.instructions = [decode(word) for word in thing[1][self.first:self.stop]]
        self.size = dict(thing[8])[name]
        self.patches = {patch[0]: patch[1:] for patch in thing[5] if self.first <= patch[0] < self.stop}
        # What is no function, as keys.
        self.things = {told[0]: True for told in thing[2]}
        self.things.update({told[0]: True for told in thing[4] if told[2] == IS_GLOBAL})
        # For each word to which a branch or a jump goes, and the first one, what is known there, None until one comes.
        self.states = {}
        self.waiting = {}
        # The stores by other registers than sp that are known to stand so many bytes behind the first sp, as keys:
        # those that were found ahead of this walk, and those of this one.
        self.known_stores = {}
        self.stores = {}

    def wrong(self):
        """None if the code keeps what is agreed upon, else a word and a place."""
        for at, patch in self.patches.items():
            if not goes_with(patch[0], self.instructions[at - self.first]):
                return "patch", at
        while True:
            self._find_states()
            # By what holds in the end, not by what seemed to hold when only some ways had come there.
            self.stores = {}
            places = [at for at in sorted(self.states) if self.states[at] is not None]
            found = [self._go_from(at) for at in places]
            if all([at in self.known_stores for at in self.stores]):
                wrong = [one for one in found if one is not None]
                return wrong[0] if wrong else None
            self.known_stores.update(self.stores)

    def _find_states(self):
        """Find what is known at each word to which something goes, whatever is wrong."""
        self.states = {self.first: CodeState()}
        for at in range(self.first, self.stop):
            goal = self._goal(at)
            if goal is not None:
                self.states.setdefault(goal, None)
        self.waiting = {self.first: True}
        while self.waiting:
            # One round through the code, as far as something is to be looked at anew.
            places = sorted(self.waiting)
            for at in places:
                del self.waiting[at]
                self._go_from(at)

    def _goal(self, at):
        """The word to which a branch, or a jump that isn't patched, goes; None for others, and for no word at all."""
        instruction = self.instructions[at - self.first]
        if instruction is None or at in self.patches:
            return None
        if FORMS[instruction[0]][0] == "branch":
            distance = instruction[3]
        elif instruction[0] == "jal":
            distance = instruction[2]
        else:
            return None
        return at + distance // BYTES if distance & (BYTES - 1) == 0 else None

    def _go_from(self, at):
        """Go on from a word to which something goes, until another such word, or an end: what is wrong, or None."""
        state = self.states[at].same()
        while True:
            if not self._is_sp_right(state):
                return "sp", at
            wrong, goals = self._do(at, state)
            if wrong is not None:
                return wrong, at
            for goal in goals:
                if not self.first <= goal < self.stop:
                    return "behind" if goal == at + 1 else "jump", at
                if goal in self.states:
                    self._come_to(goal, state)
            if at + 1 not in goals or at + 1 in self.states:
                return None
            at += 1

    def _come_to(self, goal, state):
        """A way comes to a word."""
        if self.states[goal] is None:
            self.states[goal] = state.same()
            self.waiting[goal] = True
        elif self.states[goal].meet(state):
            self.waiting[goal] = True

    def _is_sp_right(self, state):
        """Whether sp is not below the frame, and not above the first sp."""
        sp = state.sp()
        return sp is not None and -self.size <= sp <= 0

    def _do(self, at, state):
        """What is wrong with a word, or None, and the words behind it; the state becomes that behind it."""
        instruction = self.instructions[at - self.first]
        if instruction is None:
            return "no instruction", []
        name, one, other, third = instruction
        form = FORMS[name][0]
        if form == "branch":
            goal = self._goal(at)
            return ("jump", []) if goal is None else (None, [goal, at + 1])
        if form == "store":
            return self._store(at, state), [at + 1]
        if form == "whole":
            return None, self._whole(at, state, name)
        if one in NEVER_CHANGED:
            return "register", []
        if name == "jal":
            return self._jal(at, state)
        if name == "jalr":
            right = (one, other, third) == (0, RA, 0) and at not in self.patches and state.keeps_all()
            return None if right else "end", []
        state.put(one, None if at in self.patches else self._made(state, instruction))
        return None, [at + 1]

    def _whole(self, at, state, name):
        """The words behind one that has no parts."""
        if name == "ecall":
            state.put(ARGS, None)
        return [] if name == "ebreak" else [at + 1]

    def _jal(self, at, state):
        goal = self.instructions[at - self.first][1]
        if at not in self.patches:
            if goal == RA:
                return "call", []
            behind = self._goal(at)
            state.put(goal, None)
            return ("jump", []) if behind is None else (None, [behind])
        _, name, many = self.patches[at]
        if name in self.things or many != 0:
            return "jump", []
        if goal == RA:
            if state.sp() != -self.size:
                return "call", []
            state.call()
            return None, [at + 1]
        state.put(goal, None)
        return None if state.keeps_all() else "end", []

    def _made(self, state, instruction):
        """What is known of what an instruction puts into a register."""
        name, _, one, other = instruction
        form = FORMS[name][0]
        if name == "lui":
            return (NUMBER, one << 12)
        if name == "lw":
            return state.frame.get(state.bytes_behind(one, other), None)
        if form == "three":
            return worked_out(name, state.registers[one], state.registers[other])
        if form in ("number", "shift") and name not in SIZES:
            return worked_out(name, state.registers[one], (NUMBER, word_of(other)))
        return None

    def _store(self, at, state):
        """What is wrong with a store, or None."""
        name, base, source, number = self.instructions[at - self.first]
        many = SIZES[name][0]
        behind = state.bytes_behind(base, number)
        if behind is None:
            # It reaches objects alone.
            return None
        if base != SP:
            self.stores[at] = True
            if at not in self.known_stores:
                return None
        if at in self.patches or not -self.size <= behind <= -many:
            return "store"
        if name == "sw" and behind & (BYTES - 1) == 0:
            state.put_word(behind, state.registers[source])
        else:
            state.lose(behind, many)
        return None
