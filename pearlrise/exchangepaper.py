"""Papers that bar fewer exchanges: how one is made, and whether one shows what it has to."""

from pearlrise.exchange import Exchanges
from pearlrise.words import is_int, is_whole

ROW_LENGTH = 3
GREATEST_MANY = 1000000000


def has_free(asked, layer):
    """Whether some free bead fits the place of a row."""
    return any([len(asked.free_for(row)) > 0 for row in layer])


def next_layer(asked, layer):
    """All rows to which those of a layer lead, rising, each once."""
    return sorted(set([further for row in layer for further in asked.leads(row).values()]))


def layers(stock, name, at):
    """The paper of a gap: its row, then all rows that are reached by one more number, up to a free bead."""
    asked = Exchanges(stock, name, at)
    told = []
    layer = [asked.first_row]
    while len(layer) > 0:
        told.append(layer)
        layer = [] if has_free(asked, layer) else next_layer(asked, layer)
    return told


def are_givers(asked, thing):
    """Whether it is a tuple of names of other strings than the gap's, rising."""
    if not isinstance(thing, tuple):
        return False
    # Some things can't be members of a set, so kinds are asked first.
    if not all([isinstance(name, str) and name in asked.others for name in thing]):
        return False
    return list(thing) == sorted(set(thing))


def is_row(asked, thing):
    """Whether it is a row of a paper."""
    if not isinstance(thing, tuple) or len(thing) != ROW_LENGTH:
        return False
    name, at, givers = thing
    if not isinstance(name, str) or not is_int(at) or not are_givers(asked, givers):
        return False
    if (name, at) == asked.gap:
        return len(givers) == 0
    return (name, at) in asked.fitting and name in givers


def is_paper(asked, paper):
    """Whether it is a list of lists of rows."""
    if not isinstance(paper, list) or not all([isinstance(layer, list) for layer in paper]):
        return False
    return all([is_row(asked, row) for layer in paper for row in layer])


def leads_within(asked, layer, behind):
    """Whether the layer behind has all rows to which those of a layer lead."""
    return all([row in behind for row in next_layer(asked, layer)])


def bars_fewer(stock, name, at, many, paper):
    """Whether a paper, whatever it is, shows that each exchange for a gap has so many numbers or more."""
    asked = Exchanges(stock, name, at)
    if not is_whole(many, 1, GREATEST_MANY) or not is_paper(asked, paper):
        return False
    if many == 1:
        return True
    if len(paper) == 0 or asked.first_row not in paper[0]:
        return False
    # Layers behind the paper's last one have no rows, so that nothing is to be asked of them.
    wanted = paper[:many - 1]
    if any([has_free(asked, layer) for layer in wanted]):
        return False
    behind = paper[1:] + [[]]
    # Nothing is asked of where the last of many - 1 layers leads.
    return all([leads_within(asked, layer, behind[k]) for k, layer in enumerate(wanted) if k + 2 < many])
