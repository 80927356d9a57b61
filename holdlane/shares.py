"""The share of a net, and between which numbers lies how often its parts have worked."""

from holdlane.arcs import arcs_of
from holdlane.errors import BadWord, NoSuch
from holdlane.paces import times_or_ring
from holdlane.words import is_whole, least_terms

MOST_TURNS = 300


def share(net):
    arcs = arcs_of(net)
    # The last arc leads from a part to itself with one token: no ring that the share hangs on lets more through.
    ring = [arcs[-1]]
    told = times_or_ring(net.part_names(), arcs, fraction_of(ring))
    while told[0] == "ring":
        ring = told[1]
        told = times_or_ring(net.part_names(), arcs, fraction_of(ring))
    fraction = fraction_of(ring)
    return (fraction[0], fraction[1], ring, told[1], least_tokens(arcs, ring[0][0]))


def tokens_of(ring):
    return sum([arc[2] for arc in ring])


def fraction_of(ring):
    return least_terms(tokens_of(ring), len(ring))


def least_tokens(arcs, start):
    least = {start: 0}
    grown = True
    while grown:
        grown = False
        for arc in arcs:
            if arc[0] in least and least[arc[0]] + arc[2] < least.get(arc[1], least[arc[0]] + arc[2] + 1):
                least[arc[1]] = least[arc[0]] + arc[2]
                grown = True
    return least


def limits(paper, part, turns):
    # A list, unlike a dict, can be asked for a thing of any kind.
    if part not in list(paper[3]):
        raise NoSuch(part)
    if not is_whole(turns) or not 0 <= turns <= MOST_TURNS:
        raise BadWord("the turns are a whole number from 0 to 300")
    return (fewest_works(paper, part, turns), most_works(paper, part, turns))


def fewest_works(paper, part, turns):
    return max(0, (turns * paper[0] - 1 - paper[3][part]) // paper[1] + 1)


def most_works(paper, part, turns):
    if turns == 0:
        return 0
    arcs = len(paper[2])
    return tokens_of(paper[2]) * ((turns + arcs - 1) // arcs) + paper[4][part]
