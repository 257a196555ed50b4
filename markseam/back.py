"""Rows led back: which words have a row, or a row with a part in it."""

from markseam.errors import NoPaper, NoRule
from markseam.machine import word_to
from markseam.signs import are_signs, want_word
from markseam.whole import is_within

MOST_WORDS = 60
LONGEST_PART = 8


def goals_of(ways, row, at):
    """Tell for each letter the pair to which it leads from a place of the row, None where its text is not next."""
    return [(goal, at + len(text)) if row.startswith(text, at) else None for text, goal in ways]


def sources_of(goals):
    """Tell for each pair those from which a letter leads to it, once for each letter."""
    sources = [[] for _ in goals]
    for number, found in enumerate(goals):
        for goal in found:
            if goal is not None:
                sources[goal].append(number)
    return sources


def next_to_end(goals, ends):
    """Tell for each pair from which the row can come to its end the next one on a shortest way there.

    A pair at which a word may end has itself.
    """
    sources = sources_of(goals)
    found = {number: number for number in ends}
    order = list(ends)
    at = 0
    while at < len(order):
        number = order[at]
        at += 1
        for source in sources[number]:
            if source not in found:
                found[source] = number
                order.append(source)
    return found


def kept_goals(goals, wanted):
    """Tell for each of the wanted pairs by how many letters it leads to which wanted ones."""
    kept = {}
    for number in sorted(wanted):
        many = {}
        for goal in goals[number]:
            if goal in wanted:
                many[goal] = many.get(goal, 0) + 1
        kept[number] = many
    return kept


def in_turn(goals):
    """Tell the pairs such that each stands behind all that lead to it; those on or behind a loop are left out."""
    open_ways = {number: 0 for number in goals}
    for number in goals:
        for goal in goals[number]:
            open_ways[goal] += 1
    order = [number for number in goals if open_ways[number] == 0]
    at = 0
    while at < len(order):
        number = order[at]
        at += 1
        for goal in goals[number]:
            open_ways[goal] -= 1
            if open_ways[goal] == 0:
                order.append(goal)
    return order


def loop_in(goals, order):
    """Tell the pairs of a loop, one behind the other, where the order leaves some pairs out."""
    done = {number: True for number in order}
    sources = {}
    for number in goals:
        if number not in done:
            for goal in goals[number]:
                sources[goal] = number
    # Each pair that was left out has one ahead of it that was left out, too.
    at = max([number for number in goals if number not in done])
    places = {}
    found = []
    while at not in places:
        places[at] = len(found)
        found.append(at)
        at = sources[at]
    return found[places[at]:][::-1]


def layers_to_end(goals, ends, most):
    """Tell, by how many letters are left, from which pairs the row can come to its end in just as many.

    A pair that has so many words to the end already needs no longer ones.
    """
    sources = sources_of(goals)
    many = [0] * len(goals)
    layers = []
    layer = {number: 1 for number in ends}
    # Without ends there may be no pairs at all.
    while layer and many[0] < most:
        layers.append(layer)
        for number in layer:
            many[number] += layer[number]
        ahead = {}
        for number in layer:
            for source in sources[number]:
                if many[source] < most:
                    ahead[source] = min(most, ahead.get(source, 0) + layer[number])
        layer = ahead
    return layers


class Back:
    """All words of a machine's letters that have a row.

    A pair is a room and how much of the row is told by then. The pairs that come
    are numbered in the order of the first words that lead to them.
    """

    def __init__(self, machine, row):
        want_word(row)
        self._letters = machine.letters()
        self._pairs = []
        self._trail = [(0, "")]
        self._goals = []
        self._ends = []
        if row.startswith(machine.first()):
            self._pairs.append((0, len(machine.first())))
            self._walk(machine.rooms(), row)

    def _walk(self, rooms, row):
        """Find all pairs, where letters lead from each, and at which a word may end."""
        numbers = {self._pairs[0]: 0}
        while len(self._goals) < len(self._pairs):
            number = len(self._goals)
            room, at = self._pairs[number]
            end, ways = rooms[room]
            if row[at:] == end:
                self._ends.append(number)
            found = []
            for letter, goal in zip(self._letters, goals_of(ways, row, at)):
                if goal is not None and goal not in numbers:
                    numbers[goal] = len(self._pairs)
                    self._pairs.append(goal)
                    self._trail.append((number, letter))
                found.append(numbers[goal] if goal is not None else None)
            self._goals.append(found)

    def _word_along(self, numbers):
        """Tell a word that leads from each of the pairs to the next one."""
        return "".join([self._letters[self._goals[number].index(goal)]
                        for number, goal in zip(numbers, numbers[1:])])

    def first(self):
        """Tell the first word that has the row, None where none has it."""
        if len(self._ends) == 0:
            return None
        return word_to(self._trail, self._ends[0])

    def how_many(self):
        """Tell how many words have the row, None where they are endless."""
        goals = kept_goals(self._goals, next_to_end(self._goals, self._ends))
        order = in_turn(goals)
        if len(order) < len(goals):
            return None
        ends = {number: True for number in self._ends}
        many = {0: 1}
        told = 0
        for number in order:
            # Such numbers may have thousands of figures: none is kept longer than it is wanted.
            count = many.pop(number)
            if number in ends:
                told += count
            for goal, times in goals[number].items():
                many[goal] = many.get(goal, 0) + count * times
        return told

    def words(self, most):
        """Tell the first words that have the row, so many or all."""
        if not is_within(most, 0, MOST_WORDS):
            raise NoRule("most")
        layers = layers_to_end(self._goals, self._ends, most)
        told = []
        for length, layer in enumerate(layers):
            if 0 in layer:
                told.extend(self._words_of(length, layers, most - len(told)))
        return told

    def _words_of(self, length, layers, most):
        """Tell the first words of a length that have the row, so many or all."""
        trail = [(0, "")]
        begun = [(0, 0)]
        for left in range(length - 1, -1, -1):
            longer = []
            for at, number in begun:
                for letter, goal in zip(self._letters, self._goals[number]):
                    if goal in layers[left]:
                        longer.append((len(trail), goal))
                        trail.append((at, letter))
                # Each begin leads to one word at least, so there is need of no more than so many.
                if len(longer) >= most:
                    break
            begun = longer[:most]
        return [word_to(trail, at) for at, _ in begun]

    def loop(self):
        """Tell texts ahead, again, behind of endless many words that have the row, None where they are not endless."""
        onward = next_to_end(self._goals, self._ends)
        goals = kept_goals(self._goals, onward)
        order = in_turn(goals)
        if len(order) == len(goals):
            return None
        found = loop_in(goals, order)
        behind = [found[0]]
        while onward[behind[-1]] != behind[-1]:
            behind.append(onward[behind[-1]])
        ahead = word_to(self._trail, found[0])
        return (ahead, self._word_along(found + [found[0]]), self._word_along(behind))

    def shut(self):
        """Tell all pairs that come, rising, None where a word has the row."""
        if len(self._ends) > 0:
            return None
        return sorted(self._pairs)


def is_pair(machine, row, thing):
    """Tell whether a thing is a tuple of a room's number and a place of the row or its end."""
    if not isinstance(thing, tuple) or len(thing) != 2:
        return False
    return is_within(thing[0], 0, len(machine) - 1) and is_within(thing[1], 0, len(row))


def check_shut(machine, row, paper):
    """Refuse a paper that does not show that no word has the row."""
    want_word(row)
    if not isinstance(paper, list):
        raise NoPaper(0)
    rooms = machine.rooms()
    known = {thing: True for thing in paper if is_pair(machine, row, thing)}
    for number, thing in enumerate(paper):
        if not is_pair(machine, row, thing):
            raise NoPaper(number)
        room, at = thing
        end, ways = rooms[room]
        if row[at:] == end or not all([goal is None or goal in known for goal in goals_of(ways, row, at)]):
            raise NoPaper(number)
    if row.startswith(machine.first()) and (0, len(machine.first())) not in known:
        raise NoPaper(len(paper))


def kept_start(text, part):
    """Tell how many signs of the part, not all, stand at the text's end as its begin, at most."""
    for many in range(min(len(part) - 1, len(text)), 0, -1):
        if text.endswith(part[:many]):
            return many
    return 0


def first_with(machine, part):
    """Tell the first word whose row has the part somewhere in it, None where there is none."""
    if not are_signs(part, 1, LONGEST_PART):
        raise NoRule("part")
    rooms = machine.rooms()
    if part in machine.row(""):
        return ""
    pairs = [(0, kept_start(machine.first(), part))]
    trail = [(0, "")]
    seen = {pairs[0]: True}
    at = 0
    while at < len(pairs):
        room, many = pairs[at]
        for letter, (text, goal) in zip(machine.letters(), rooms[room][1]):
            told = part[:many] + text
            if part in told + rooms[goal][0]:
                return word_to(trail, at) + letter
            pair = (goal, kept_start(told, part))
            if pair not in seen:
                seen[pair] = True
                pairs.append(pair)
                trail.append((at, letter))
        at += 1
    return None
