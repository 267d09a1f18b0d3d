"""Papers: why a name was made or kept in a build from records, and chains of them (promises 12 and 13)."""

from madeagain.again import build_again
from madeagain.recipes import is_same

PAPERS_OF_MADE = ("new", "recipe", "read")


# Of a name of the house that was gone to. (What lies behind the first unlike read may have no worth.)
def paper_of(house, records, worths, name):
    if name in house[0]:
        return ("given",)
    if name not in records:
        return ("new",)
    record = records[name]
    now = house[1][name]
    if not is_same(now, record[0]):
        return ("recipe", record[0], now)
    for k, read in enumerate(record[1]):
        if worths.get(read[0]) != read[1]:
            return ("read", k, read[1], worths.get(read[0]))
    return ("alike",)


def papers_of(house, records, wishes):
    worths = build_again(house, records, wishes)[0]
    papers = {}
    for name in worths:
        papers[name] = paper_of(house, records, worths, name)
    return papers


def paper_shows(house, records, worths, name, paper):
    if name not in worths or (name not in house[0] and name not in house[1]):
        return False
    return is_same(paper_of(house, records, worths, name), paper)


def chain_of(papers, records, name):
    chain = []
    while name in papers and papers[name][0] in PAPERS_OF_MADE:
        paper = papers[name]
        chain.append((name, paper))
        if paper[0] != "read":
            break
        name = records[name][1][paper[1]][0]
    return chain
