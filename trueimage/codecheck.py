"""Whether code keeps what is agreed upon between functions [47], whatever made it [49]."""

from trueimage.codewalk import CodeWalk


def wrong_code(thing, name):
    """None if the code of a function of an object keeps what is agreed upon, else a word and a place in its words."""
    return CodeWalk(thing, name).wrong()


def wrong_object(thing):
    """None if nothing is wrong with an object's code, else the name of the first function, a word and a place."""
    for name, _, _, _ in thing[3]:
        found = wrong_code(thing, name)
        if found is not None:
            return (name,) + found
    return None
