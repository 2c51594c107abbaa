"""Linking objects to images [57], [58]."""

from trueimage.errors import BadLink, BadThing
from trueimage.forms import decode, encode
from trueimage.frames import ARGS, DEED, RA, SP, high_part, low_part
from trueimage.middleforms import is_number
from trueimage.objects import given_by
from trueimage.units import wrong_main, wrong_wants

BYTES = 4
STEP = 16
MOST_LIMIT = 1000
MOST_BASE = 268435456
MOST_STACK = 16777216
MOST_WORDS = 200000
# The words that begin an image.
BEGINNING = 6


def taken(objects, archives):
    """The list of what is linked: the told objects, and the members of archives that are wanted."""
    found = list(objects)
    given = {}
    wanted = {"main": True}
    for thing in found:
        _take(thing, given, wanted)
    members = [member for archive in archives for member in archive[1]]
    gives = [list(given_by(member)) for member in members]
    left = list(range(len(members)))
    while True:
        wants = [at for at in left if _is_wanted(gives[at], given, wanted)]
        if not wants:
            return found
        left.remove(wants[0])
        found.append(members[wants[0]])
        _take(members[wants[0]], given, wanted)


def _take(thing, given, wanted):
    """An object is taken: what it gives and wants is added to what is given and wanted."""
    for name in given_by(thing):
        given[name] = True
    for name, _, _ in thing[4]:
        wanted[name] = True


def _is_wanted(names, given, wanted):
    return any([name in wanted and name not in given for name in names])


def unlinked(objects):
    """The list of what is wrong with objects together."""
    givers = {}
    found = []
    for thing in objects:
        things = [(name, (kind, -1)) for name, kind, _, _ in thing[2]]
        for name, told in things + [(name, (kind, many)) for name, kind, many, _ in thing[3]]:
            if name in givers:
                found.append(("doubled", name))
            else:
                givers[name] = told
    for thing in objects:
        found.extend(wrong_wants(thing[4], givers))
    return found + wrong_main(givers)


def stack_needed(objects, limit):
    """The least number of bytes that suffices for all ways of calls."""
    sizes = {}
    calls = {}
    for thing in objects:
        for name, size in thing[8]:
            sizes.setdefault(name, size)
            calls.setdefault(name, [])
        for name, callee, deeper, is_tail in thing[9]:
            calls.setdefault(name, []).append((callee, deeper, is_tail))
    # For each depth the functions that may run there, and the most bytes that those have that called them.
    ahead = [{} for _ in range(limit + 1)]
    if "main" in sizes and limit > 0:
        ahead[1]["main"] = 0
    most = 0
    for depth in range(1, limit + 1):
        for name, held in list(ahead[depth].items()):
            most = max(most, held + sizes[name])
            for callee, deeper, is_tail in calls[name]:
                if callee in sizes and depth + deeper <= limit:
                    there = ahead[depth + deeper]
                    there[callee] = max(there.get(callee, 0), held if is_tail else held + sizes[name])
    return most


def data_start(image):
    """The address of the first word of the globals of an image."""
    return _behind(image[8] + BYTES * len(image[0]))


def stack_start(image):
    """The address of the first byte of the stack of an image."""
    return _behind(data_start(image) + BYTES * len(image[1]))


def _behind(address):
    """The next multiple of 16 from an address on."""
    return (address + STEP - 1) // STEP * STEP


def link(objects, archives, limit, base=4096):
    """The image of objects, and of what they want of archives."""
    if not is_number(limit, 1, MOST_LIMIT):
        raise BadThing(limit)
    if not is_number(base, 0, MOST_BASE) or base & (STEP - 1) != 0:
        raise BadThing(base)
    things = taken(objects, archives)
    found = unlinked(things)
    if found:
        raise BadLink(found)
    stack = stack_needed(things, limit)
    many = BEGINNING + sum([len(thing[1]) for thing in things])
    if stack > MOST_STACK or many > MOST_WORDS:
        raise BadThing(limit)
    return _image(things, stack, limit, base)


def _image(things, stack, limit, base):
    """The image of objects that go together."""
    words = [0] * BEGINNING
    places = [None] * BEGINNING
    data = []
    starts = []
    traps = []
    for thing in things:
        start = base + BYTES * len(words)
        starts.append(start)
        words.extend(thing[1])
        places.extend(thing[6])
        traps.extend([(start + BYTES * at, kind) for at, kind in thing[7]])
        for _, _, many, firsts in thing[2]:
            data.extend(list(firsts) + [0] * (many - len(firsts)))
    addresses = _addresses(things, starts, _behind(base + BYTES * len(words)))
    for thing, start in zip(things, starts):
        for at, kind, name, behind in thing[5]:
            spot = start + BYTES * at
            goal = limit if kind == "limit" else addresses[name] + behind
            words[(spot - base) // BYTES] = _patched(thing[1][at], kind, goal, spot)
    names = tuple(sorted(addresses.items()))
    pace = max([thing[10] for thing in things])
    image = (tuple(words), tuple(data), stack, limit, tuple(places), tuple(traps), names, pace, base)
    beginning = _beginning(stack_start(image) + stack, addresses["main"] - base)
    return (tuple(beginning + words[BEGINNING:]),) + image[1:]


def _addresses(things, starts, behind):
    """The addresses of functions and, from an address on, globals."""
    addresses = {}
    for thing, start in zip(things, starts):
        for name, _, _, at in thing[3]:
            addresses[name] = start + BYTES * at
        for name, _, many, _ in thing[2]:
            addresses[name] = behind
            behind += BYTES * many
    return addresses


def _patched(word, kind, goal, spot):
    """A word that stands at a spot, with what its patch puts there."""
    name, one, other, third = decode(word)
    if kind == "high":
        return encode((name, one, high_part(goal), third))
    if kind == "jump":
        return encode((name, one, goal - spot, third))
    return encode((name, one, other, goal if kind == "limit" else low_part(goal)))


def _beginning(end, main):
    """The words that begin an image; main stands so many bytes from the base on."""
    return [
        encode(("lui", SP, high_part(end), 0)),
        encode(("addi", SP, SP, low_part(end))),
        encode(("addi", ARGS, 0, 1)),
        encode(("jal", RA, main - 3 * BYTES, 0)),
        encode(("addi", DEED, 0, 0)),
        encode(("ecall", 0, 0, 0)),
    ]
