"""What the document says of tables, beginnings, graphs and steps, done plainly."""

from tests.plain import net_word, words_of


def come_to(layout, procedure, ending):
    """The places that beginnings come to; ending are the procedures that can end."""
    found, waiting = set(), [(procedure, layout[procedure][0])]
    while waiting:
        at = waiting.pop()
        if at in found:
            continue
        found.add(at)
        kind = layout[at[0]][1][at[1]]
        if kind[0] == "letter":
            waiting.append((at[0], kind[2]))
        elif kind[0] == "fork":
            waiting.extend((at[0], part) for part in kind[1])
        elif kind[0] == "call":
            waiting.append((kind[1], layout[kind[1]][0]))
            if kind[1] in ending:
                waiting.append((at[0], kind[2]))
    return found


def can_end(layout):
    """The places from which a run ends."""
    found = set()
    while True:
        more = set(found)
        for procedure, (_, kinds) in enumerate(layout):
            for place, kind in enumerate(kinds):
                parts = {"end": [[]], "letter": [[kind[-1]]], "call": [[kind[-1]]],
                         "fork": [[part] for part in kind[-1]] if kind[0] == "fork" else []}[kind[0]]
                if kind[0] == "call" and (kind[1], layout[kind[1]][0]) not in found:
                    continue
                if any(all((procedure, part) in found for part in row) for row in parts):
                    more.add((procedure, place))
        if more == found:
            return found
        found = more


def useful_places(layout, procedure):
    """The useful places of a procedure."""
    ends = can_end(layout)
    found, waiting = set(), [(procedure, layout[procedure][0])]
    while waiting:
        at = waiting.pop()
        if at in found or at not in ends:
            continue
        found.add(at)
        kind = layout[at[0]][1][at[1]]
        if kind[0] == "letter":
            waiting.append((at[0], kind[2]))
        elif kind[0] == "fork":
            waiting.extend((at[0], part) for part in kind[1])
        elif kind[0] == "call":
            waiting.extend([(kind[1], layout[kind[1]][0]), (at[0], kind[2])])
    return tuple(sorted(found))


def table_holds(layout, places, thing):
    """Whether the rows of a table for these places hold, its texts being such that can be spelled."""
    if tuple(entry[:2] for entry in thing) != places:
        return False
    words = {entry[:2]: words_of(entry[2])[-1] for entry in thing}
    for at, word in words.items():
        kind = layout[at[0]][1][at[1]]
        if kind[0] == "end" and word != ():
            return False
        if kind[0] == "letter" and word != net_word((kind[1], *words[(at[0], kind[2])])):
            return False
        if kind[0] == "call":
            if word != net_word(words[(kind[1], layout[kind[1]][0])] + words[(at[0], kind[2])]):
                return False
        if kind[0] == "fork":
            if any(words[(at[0], part)] != word for part in kind[1] if (at[0], part) in words):
                return False
    return True


def row_words(layout, rows):
    """The words of the runs of rows."""
    found = []
    for procedure, place, _, parts in rows:
        kind = layout[procedure][1][place]
        ahead = (kind[1],) if kind[0] == "letter" else ()
        found.append(sum((found[part] for part in parts), ahead))
    return found


def followed(layout, procedure, beginning):
    """The places of each leg of a right beginning, and the letters of each move."""
    rows, legs = beginning
    words = row_words(layout, rows)
    courses, deeds = [], []
    for number, leg in enumerate(legs):
        if number:
            procedure = layout[procedure][1][courses[-1][1][-1]][1]
        place = layout[procedure][0]
        courses.append((procedure, [place]))
        deeds.append([])
        for move in leg:
            kind = layout[procedure][1][place]
            place = kind[1][move] if kind[0] == "fork" else kind[2]
            deeds[-1].append(words[move] if kind[0] == "call" else (kind[1],) if kind[0] == "letter" else ())
            courses[-1][1].append(place)
    return courses, deeds


def goes_wrong(layout, procedure, beginning):
    """Whether a right beginning goes wrong."""
    courses, deeds = followed(layout, procedure, beginning)
    if not deeds[-1]:
        return False
    at, course = courses[-1]
    ahead = net_word(sum((sum(leg, ()) for leg in deeds[:-1]), ()) + sum(deeds[-1][:-1], ()))
    behind = net_word(ahead + deeds[-1][-1])
    return layout[at][1][course[-2]][0] == "letter" and all(x > 0 for x in ahead) and any(x < 0 for x in behind)


def graph_holds(layout, procedure, nets, many_letters, thing):
    """Whether thing, of the form of a graph, meets the demands; nets are the words of the procedures that can end."""
    states, edges, places, chains = thing
    if list(edges) != sorted(set(edges)) or not 1 <= states <= 100000:
        return False
    for s, x, t in edges:
        if not (0 <= s < states and 1 <= t < states and 0 <= x <= many_letters):
            return False
    wanted = sorted(come_to(layout, procedure, nets))
    if [entry[:2] for entry in places] != wanted or not all(0 < entry[2] < states for entry in places):
        return False
    state = {entry[:2]: entry[2] for entry in places}
    calls = [at for at in wanted if layout[at[0]][1][at[1]][0] == "call" and layout[at[0]][1][at[1]][1] in nets]
    if [entry[:2] for entry in chains] != calls:
        return False
    edge_set = set(edges)

    def silent(s, t):
        return s == t or (s, 0, t) in edge_set

    def kept(s, x, t):
        if x > 0:
            return (s, x, t) in edge_set
        back, waiting = set(), [s]
        while waiting:
            at = waiting.pop()
            if at not in back:
                back.add(at)
                waiting.extend(u for u, y, v in edges if y == 0 and v == at)
        tops = [(u, y) for u, y, v in edges if y > 0 and v in back]
        return 0 not in back and all(y == -x and silent(u, t) for u, y in tops)

    if (0, 0, state[(procedure, layout[procedure][0])]) not in edge_set:
        return False
    for at in wanted:
        kind = layout[at[0]][1][at[1]]
        if kind[0] == "letter" and not kept(state[at], kind[1], state[(at[0], kind[2])]):
            return False
        if kind[0] == "fork" and not all(silent(state[at], state[(at[0], part)]) for part in kind[1]):
            return False
        if kind[0] == "call" and not silent(state[at], state[(kind[1], layout[kind[1]][0])]):
            return False
    for procedure, place, chain in chains:
        kind = layout[procedure][1][place]
        net = nets[kind[1]]
        if len(chain) != len(net) + 1 or chain[0] != state[(procedure, place)]:
            return False
        if not all(0 < inner < states for inner in chain):
            return False
        if not all(kept(s, x, t) for s, x, t in zip(chain, net, chain[1:])):
            return False
        if not silent(chain[-1], state[(procedure, kind[2])]):
            return False
    return True


def first_fault(layout, procedure, nets, most, deepest):
    """(whether something goes wrong, how many deeds stand at most, whether all was looked at), by all stacks that come.

    Stacks deeper than deepest are not gone on from, and at most so many places with stacks are looked at.
    """
    start = ((procedure, layout[procedure][0]), ())
    known, front, highest, is_whole = {start}, [start], 0, True
    while front:
        at, stack = front.pop(0)
        highest = max(highest, len(stack))
        if len(stack) > deepest or len(known) > most:
            is_whole = False
            continue
        kind = layout[at[0]][1][at[1]]
        more = []
        if kind[0] == "letter":
            word = net_word((*stack, kind[1]))
            if any(x < 0 for x in word):
                return True, None, False
            more.append(((at[0], kind[2]), word))
        elif kind[0] == "fork":
            more.extend(((at[0], part), stack) for part in kind[1])
        elif kind[0] == "call":
            more.append(((kind[1], layout[kind[1]][0]), stack))
            if kind[1] in nets:
                word = net_word(stack + nets[kind[1]])
                if all(x > 0 for x in word):
                    more.append(((at[0], kind[2]), word))
        for one in more:
            if one not in known:
                known.add(one)
                front.append(one)
    return False, highest, is_whole
