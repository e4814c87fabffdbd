"""A second reading of [17] to [21]: the watches of columns and kinds, and the ranks, written anew from the document."""

THERE = ("plain", "marked", "other")


class Second:
    """The watch of a question, "stuck" excepted."""

    def __init__(self, book, question):
        self.word, self.name = question.split(" ")
        self.book = book
        self.open = dict(book.kinds())
        if self.word == "undue":
            self.begin = ("new", "")
        else:
            [(_, self.home, self.goal, self.rule)] = [row for row in book.columns() if row[0] == self.name]
            self.begin = ("new", "-", "new", "new", "")

    def has(self, *words):
        return " ".join(words) in self.book.checks()

    def all_states(self):
        if self.word == "undue":
            return {(x, lists) for x in ("new", "plain", "marked", "gone") for lists in ("", "X", "XX")}
        one = "S" if self.rule == "fall" else "C"
        all_lists = {"", one, "X", "Y", one + one, one + "X", one + "Y", "XX", "XY", "YY"}
        return {
            (x, owner, y, z, lists)
            for x in ("new", "plain", "marked", "other", "gone") for owner in "-yz"
            for y in ("new", "plain", "marked", "gone") for z in ("new", "plain") for lists in all_lists
        }

    def is_fault(self, state):
        """The faults that are states."""
        if self.word not in ("loose", "half"):
            return False
        there = ("plain",) if self.word == "loose" else THERE
        return state[0] in there and state[1] == "y" and state[2] == "gone"

    def steps(self, state):
        """The set of the pairs of a state that comes next, and whether the step is the fault."""
        return self.kind_steps(*state) if self.word == "undue" else self.column_steps(*state)

    def kind_steps(self, x, lists):
        lone = self.has("lone")
        found = set()
        if x == "new" or (x == "gone" and not self.has("fresh")):
            found.add((("plain", lists), False))
        if x == "plain" and self.name in self.book.markable() and (not lone or not lists or self.open[self.name]):
            found.add((("marked", lists), False))
        if x == "marked" and len(lists) < (1 if lone else 2):
            found.add(((x, lists + "X"), False))
        if lists:
            found.add(((x, lists[1:]), False))
            if x == "marked" or (x == "plain" and not self.has("again", self.name)):
                found.add((("gone", lists[1:]), x == "plain"))
            else:
                found.add(((x, lists[1:]), False))
        return found

    def column_steps(self, x, owner, y, z, lists):
        found = set()
        for change, fault in [*self.strangers(x, owner, y, z, lists), *self.workers(x, owner, y, lists)]:
            state = {"x": x, "owner": owner, "y": y, "z": z, "lists": lists, **change}
            found.add((tuple(state.values()), fault))
        return found

    def owners(self, y, z, check):
        wanted = ["-"]
        if y == "plain" or (y == "marked" and not self.has(check, self.name)):
            wanted.append("y")
        return wanted + (["z"] if z == "plain" else [])

    def strangers(self, x, owner, y, z, lists):
        again = ["new"] if self.has("fresh") else ["new", "gone"]
        if x in again:
            for one in self.owners(y, z, "put"):
                yield {"x": "plain", "owner": one}, False
        if y in again:
            yield {"y": "plain"}, False
        if z == "new":
            yield {"z": "plain"}, False
        held = self.has("hold", self.name) and x != "plain"
        kept = self.has("keep", self.name) and owner == "y" and y in ("marked", "gone")
        if x in THERE and not held and not kept:
            for one in self.owners(y, z, "turn"):
                yield {"owner": one}, False
        barred = self.has("lone") and lists != ""
        if y == "plain" and self.goal in self.book.markable():
            if self.open[self.goal] or not barred:
                yield {"y": "marked"}, False
        if self.open[self.home] and x in ("plain", "marked"):
            yield {"x": "other"}, False
        others = [
            row for row in self.book.columns()
            if row[0] != self.name and row[1] == self.home and row[3] == "fall" and row[2] in self.book.markable()
        ]
        if x == "plain" and others and not barred:
            yield {"x": "other"}, False

    def workers(self, x, owner, y, lists):
        due = owner == "y" and y == "marked"
        waits = owner == "y" and ((self.has("bare", self.goal) and x in THERE) or (self.has("calm", self.goal) and x == "plain"))
        fits = {
            "S": x == "plain" and due, "C": x in THERE and due, "X": x in ("marked", "other"),
            "Y": y == "marked" and not waits,
        }
        if len(lists) < (1 if self.has("lone") else 2):
            for letter in ("S" if self.rule == "fall" else "C", "X", "Y"):
                if fits[letter]:
                    yield {"lists": "".join(sorted(lists + letter))}, False
        for letter in lists:
            rest = {"lists": lists.replace(letter, "", 1)}
            yield rest, False
            for change, fault in self.dos(letter, x, owner, y, due, waits):
                yield {**rest, **change}, fault

    def dos(self, letter, x, owner, y, due, waits):
        due = due or not self.has("again", self.name)
        if letter == "S" and x == "plain" and due:
            yield {"x": "marked"}, False
        if letter == "C" and x in THERE and owner != "-" and due:
            yield {"owner": "-"}, self.word == "spoilt" and (owner == "z" or y == "plain")
        if letter == "X" and x in THERE and (x != "plain" or not self.has("again", self.home)):
            just = owner == "y" and y in ("marked", "gone")
            yield {"x": "gone", "owner": "-"}, self.word == "unjust" and x == "marked" and not just
        if letter == "Y" and y in ("plain", "marked"):
            if not self.has("again", self.goal) or (y == "marked" and not waits):
                yield {"y": "gone"}, False

    def reached(self, start=None):
        """The set of all states to which steps lead."""
        found = {start or self.begin}
        todo = sorted(found)
        while todo:
            new = {state for state, fault in self.steps(todo.pop())} - found
            found |= new
            todo.extend(sorted(new))
        return found

    def comes(self):
        """Whether the fault comes."""
        return any(self.is_fault(state) or any(fault for _, fault in self.steps(state)) for state in self.reached())

    def is_paper(self, states):
        """Whether a list of states shows that the fault never comes."""
        states = set(states)
        if self.begin not in states or any(self.is_fault(state) for state in states):
            return False
        return all(new in states and not fault for state in states for new, fault in self.steps(state))


def second_ranks(book):
    """The ranks by the longest of all ways without a kind twice, or None if a way comes back."""
    tight = [kind for kind in book.markable() if "bare " + kind in book.checks()]
    ways = [[kind] for kind in tight]
    longest = {kind: 0 for kind in tight}
    while ways:
        way = ways.pop()
        longest[way[0]] = max(longest[way[0]], len(way) - 1)
        for _, home, goal, rule in book.columns():
            if rule == "fall" and home == way[-1] and goal in tight:
                if goal in way:
                    return None
                ways.append([*way, goal])
    return list(longest.items())
