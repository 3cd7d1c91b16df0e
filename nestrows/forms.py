"""Programs looked at: refused, or told with their depths."""

from nestrows.depths import NO_DEPTH, depth_of
from nestrows.errors import BadProgram
from nestrows.limits import LAST_NAME, LAST_PLACE, MOST_DEPTH, MOST_FUNCTIONS, MOST_PARAMS, MOST_WITHIN, is_number
from nestrows.shapes import has_shape, number_of, parts_of


class Node:
    """A good expression: where it stands, its own number (-1 if it has none), and its depth."""

    def __init__(self, word, function, place, number, parts, depth):
        self.word = word
        self.function = function
        self.place = place
        self.number = number
        self.parts = parts
        self.depth = depth


def parts_ahead(node):
    """The parts that are done ahead of all else; the others are blocks, done as the node tells."""
    if node.word in ("if", "let", "each", "where"):
        return node.parts[:1]
    return node.parts


class Form:
    """A good function: names and depths of its params, and the node of its body."""

    def __init__(self, names, depths, body):
        self.names = names
        self.depths = depths
        self.body = body


class Look:
    """A look at the expressions of one function, in the order in which they are numbered."""

    def __init__(self, known, function):
        self.known = known
        self.function = function
        self.looked_at = 0
        self.calls_itself = False

    def refuse_if(self, wrong, place, word):
        if wrong:
            raise BadProgram(self.function, place, word)

    def node_of(self, expression, names, within):
        """The node of an expression that stands within so many others; names has the depths of names."""
        place = self.looked_at
        self.looked_at += 1
        self.refuse_if(place > LAST_PLACE or within > MOST_WITHIN, place, "size")
        self.refuse_if(not has_shape(expression), place, "form")
        word, number = expression[0], number_of(expression)
        self.refuse_if(word == "name" and number not in names, place, "name")
        self.refuse_if(word == "call" and not self.may_call(number, len(expression[2])), place, "call")
        if word in ("let", "each", "where"):
            parts = self.parts_that_name(expression, place, names, within)
        else:
            parts = [self.node_of(part, names, within + 1) for part in parts_of(expression)]
        depth = self.depth_told(word, number, parts, names)
        self.refuse_if(depth == NO_DEPTH, place, "depth")
        return Node(word, self.function, place, number, parts, depth)

    def may_call(self, called, many):
        """Whether this function may call that one, here, with so many arguments."""
        if called > self.function:
            return False
        if called == self.function and self.calls_itself:
            return False
        if called == self.function:
            self.calls_itself = True
        return many == len(self.known[called][0])

    def parts_that_name(self, expression, place, names, within):
        """The nodes of let, each and where, in whose second part their name has a meaning."""
        word, name, named, body = expression
        first = self.node_of(named, names, within + 1)
        depth = first.depth
        if word != "let":
            # The item of a number would have no depth, so the body could not be looked at.
            self.refuse_if(depth == 0, place, "depth")
            depth -= 1
        second = self.node_of(body, {**names, name: depth}, within + 1)
        return [first, second]

    def depth_told(self, word, number, parts, names):
        depths = [part.depth for part in parts]
        if word == "name":
            return names[number]
        if word == "call":
            wanted, depth = self.known[number]
            return depth if depths == list(wanted) else NO_DEPTH
        return depth_of(word, depths)


def has_face(function):
    """Whether params and the depth told are good."""
    if not isinstance(function, tuple) or len(function) != 3:
        return False
    params, depth = function[0], function[1]
    if not isinstance(params, tuple) or len(params) > MOST_PARAMS or not is_number(depth, MOST_DEPTH):
        return False
    if not all([is_param(param) for param in params]):
        return False
    return len(set([param[0] for param in params])) == len(params)


def is_param(param):
    if not isinstance(param, tuple) or len(param) != 2:
        return False
    return is_number(param[0], LAST_NAME) and is_number(param[1], MOST_DEPTH)


def told_faces(program):
    """The faces of all functions, whose bodies are not looked at."""
    if len(program) == 0:
        raise BadProgram(0, -1, "many")
    told = []
    for at, function in enumerate(program):
        if at >= MOST_FUNCTIONS:
            raise BadProgram(at, -1, "many")
        if not has_face(function):
            raise BadProgram(at, -1, "face")
        told.append((tuple([param[1] for param in function[0]]), function[1]))
    return told


def form_of(function, at, told):
    """The form of the function of this number, in a program with these faces."""
    params, depth, body = function
    look = Look(told, at)
    node = look.node_of(body, dict(params), 0)
    look.refuse_if(node.depth != depth, 0, "depth")
    return Form([param[0] for param in params], [param[1] for param in params], node)


def forms_of(program):
    """The forms of all functions; BadProgram if it is none."""
    told = told_faces(program)
    return [form_of(function, at, told) for at, function in enumerate(program)]


def faces(program):
    """(depths of params, depth) of all functions, a list; BadProgram if it is none."""
    told = told_faces(program)
    for at, function in enumerate(program):
        form_of(function, at, told)
    return told
