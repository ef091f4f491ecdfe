"""A table kept as plain rows, which tells what each call of a table has to return, raise, read and leave behind.

What is possible by the facts of a piece is taken from possible.py, which has tests of its own; everything else is
worked out here from the rows, by the rules as the document words them.
"""

import copy
import itertools

from piecefacts.evidence import shows_settled
from piecefacts.possible import possible_counts, possible_totals, possible_values
from piecefacts.ranges import both, holds
from tests.any_values import is_same
from tests.piece_model import facts_by_hand, is_integer


class Refused(Exception):
    """The error that a call has to raise, by its name, with the one thing that it keeps."""

    def __init__(self, name, *kept):
        self.name = name
        self.kept = kept


class Wanted:
    """The answer that a call has to give; passed has what stands in front of the evidence, and asked the question."""

    def __init__(self, told, read, passed, asked=False, **more):
        self.told = told
        self.read = tuple(read)
        self.passed = tuple(passed)
        self.asked = asked
        self.more = more


class Plain:
    def __init__(self, *columns):
        self.columns = columns
        self.rows = {}
        self.pieces = {}
        self.cuts = {name: () for name in columns}
        self.version = self.since = self.next_id = self.next_piece = self.readings = self.most = 0
        self.held = []

    def saved(self):
        return copy.deepcopy(vars(self))

    def restore(self, saved):
        vars(self).update(copy.deepcopy(saved))

    # What is there

    def is_live(self, row_id, at):
        put, drop, _ = self.rows[row_id]
        return put <= at and (drop is None or drop > at)

    def is_there(self, row_id):
        return any(self.is_live(row_id, at) for at in range(self.since, self.version + 1))

    def live(self, at):
        return sorted(row_id for row_id in self.rows if self.is_live(row_id, at))

    def fresh(self):
        packed = [row_id for ids, _ in self.pieces.values() for row_id in ids]
        return sorted(row_id for row_id in self.rows if row_id not in packed)

    def facts(self, number):
        ids, cuts = self.pieces[number]
        return facts_by_hand(self.columns, cuts, [self.rows[row_id][2] for row_id in ids])

    def text(self):
        lines = ["columns " + " ".join(self.columns), "version %d" % self.version, "since %d" % self.since]
        lines += ["cut " + " ".join([name, *map(str, self.cuts[name])]) for name in self.columns if self.cuts[name]]
        lines += ["next %d %d" % (self.next_id, self.next_piece), "readings %d" % self.readings]
        for row_id, (put, drop, row) in sorted(self.rows.items()):
            words = ["row", row_id, put, "-" if drop is None else drop, *["?" if entry is None else entry for entry in row]]
            lines.append(" ".join(map(str, words)))
        for number, (ids, cuts) in sorted(self.pieces.items()):
            lines.append(" ".join(map(str, ["piece", number, *ids])))
            for name, points in zip(self.columns, cuts):
                if points:
                    lines.append(" ".join(map(str, ["points", name, *points])))
        return "\n".join(lines + [" ".join(map(str, ["hold", self.most, *self.held]))])

    # What is refused

    def need_row(self, value):
        if type(value) is not tuple or len(value) != len(self.columns):
            raise Refused("BadRow", value)
        if not all(entry is None or is_integer(entry, -9999, 9999) for entry in value):
            raise Refused("BadRow", value)

    def need_id(self, value, at):
        if not is_integer(value) or value not in self.live(at):
            raise Refused("NoRow", value)

    def need_version(self, value):
        if not is_integer(value, self.since, self.version):
            raise Refused("NoVersion", value)

    def need_at(self, at):
        if at is not None:
            self.need_version(at)
        return self.version if at is None else at

    def need_name(self, value):
        if type(value) is not str or value not in self.columns:
            raise Refused("NoColumn", value)

    def need_question(self, question):
        for name in sorted(question.columns) if question is not None else []:
            self.need_name(name)

    def need_count(self, value, low=0, high=10 ** 30000):
        if not (type(value) is int and low <= value <= high):
            raise Refused("BadCount", value)

    def need_pieces(self, values):
        for k, value in enumerate(values):
            if not is_integer(value) or value not in self.pieces or any(is_same(value, one) for one in values[:k]):
                raise Refused("NoPiece", value)

    # What changes the table

    def put(self, *rows):
        for row in rows:
            self.need_row(row)
        self.version += 1 if rows else 0
        return tuple(self.add(row) for row in rows)

    def add(self, row):
        self.rows[self.next_id] = [self.version, None, row]
        self.next_id += 1
        return self.next_id - 1

    def drop(self, *ids):
        left = self.live(self.version)
        for value in ids:
            if not is_integer(value) or value not in left:
                raise Refused("NoRow", value)
            left.remove(value)
        self.version += 1 if ids else 0
        for row_id in ids:
            self.rows[row_id][1] = self.version

    def change(self, row_id, row):
        self.need_id(row_id, self.version)
        self.need_row(row)
        self.version += 1
        self.rows[row_id][1] = self.version
        return self.add(row)

    def ids(self, *, at=None):
        return tuple(self.live(self.need_at(at)))

    def cut(self, column, *points):
        self.need_name(column)
        whole = all(is_integer(point, -9998, 9999) for point in points)
        if not whole or len(points) > 4 or list(points) != sorted(set(points)):
            raise Refused("BadPoints", points)
        self.cuts[column] = points

    def pack(self, many=20):
        self.need_count(many, 1, 20)
        if not self.fresh():
            raise Refused("NothingToDo")
        return self.add_piece(self.fresh()[:many])

    def add_piece(self, ids):
        self.pieces[self.next_piece] = tuple(ids), tuple(self.cuts[name] for name in self.columns)
        self.next_piece += 1
        return self.next_piece - 1

    def forget(self, version):
        self.need_version(version)
        self.since = version
        self.tidy()

    def tidy(self):
        for number, (ids, _) in list(self.pieces.items()):
            if not any(self.is_there(row_id) for row_id in ids):
                del self.pieces[number]
        for row_id in self.fresh():
            if not self.is_there(row_id):
                del self.rows[row_id]
        self.held = [number for number in self.held if number in self.pieces]

    def fold(self, *pieces):
        self.need_pieces(pieces)
        if not pieces:
            raise Refused("NothingToDo")
        self.readings += len(set(pieces) - set(self.held))
        ids = sorted(row_id for number in pieces for row_id in self.pieces.pop(number)[0] if self.is_there(row_id))
        made = []
        while ids:
            made.append(self.add_piece(ids[:20]))
            ids = ids[20:]
        self.tidy()
        return tuple(made)

    def ids_in(self, piece):
        self.need_pieces([piece])
        return self.pieces[piece][0]

    def facts_at(self, piece):
        self.need_pieces([piece])
        return self.facts(piece)

    def hold(self, most):
        self.need_count(most, 0, 12)
        self.most = most
        self.held = self.held[-most:] if most else []

    def note(self, read):
        """Let these pieces be read, one behind the other."""
        for number in read:
            self.readings += 1
            self.held = (self.held + [number])[-self.most:] if self.most else []
        return read

    # What is asked

    def row(self, row_id):
        return dict(zip(self.columns, self.rows[row_id][2]))

    def meeting_ids(self, question, at):
        return [row_id for row_id in self.live(at) if question is None or question(self.row(row_id))]

    def pairs(self, column, question, at):
        """Return all pairs (value, id), ascending, of rows that meet a question and have a value."""
        found = [(self.row(row_id)[column], row_id) for row_id in self.meeting_ids(question, at)]
        return sorted(pair for pair in found if pair[0] is not None)

    def others(self):
        """Return the pieces that are not held."""
        return [number for number in sorted(self.pieces) if number not in self.held]

    def live_in(self, number, at):
        return [row_id for row_id in self.pieces[number][0] if self.is_live(row_id, at)]

    def counts(self, number, question, at):
        live = len(self.live_in(number, at))
        return (live,) if question is None else possible_counts(question, self.facts(number), live)

    def values(self, number, column, question, at):
        return possible_values(column, question, self.facts(number), len(self.live_in(number, at)))

    def totals(self, number, column, question, at):
        return possible_totals(column, question, self.facts(number), len(self.live_in(number, at)))

    def settled(self, question, counts, read):
        return [(number, counts[number][0]) for number in sorted(counts) if number not in read]

    def tally(self, question, *, at=None):
        self.need_question(question)
        at = self.need_at(at)
        counts = {number: self.counts(number, question, at) for number in self.others()}
        read = self.note([number for number in sorted(counts) if len(counts[number]) > 1])
        return Wanted(len(self.meeting_ids(question, at)), read, self.settled(question, counts, read), question)

    def matching(self, question, *, at=None):
        self.need_question(question)
        at = self.need_at(at)
        counts = {number: self.counts(number, question, at) for number in self.others()}
        sure = [number for number in counts if counts[number] in ((0,), (len(self.live_in(number, at)),))]
        read = self.note([number for number in sorted(counts) if number not in sure])
        return Wanted(tuple(self.meeting_ids(question, at)), read, self.settled(question, counts, read), question)

    def sure_count(self, question, at, numbers):
        """Return how many of the rows meet a question that stand in none of these pieces."""
        unsure = [row_id for number in numbers for row_id in self.pieces[number][0]]
        return len([row_id for row_id in self.meeting_ids(question, at) if row_id not in unsure])

    def between(self, question, *, at=None):
        self.need_question(question)
        at = self.need_at(at)
        choices = [self.counts(number, question, at) for number in self.others()]
        known = self.sure_count(question, at, self.others())
        sums = {known}
        for counts in choices:
            sums = {total + count for total in sums for count in counts}
        return tuple(sorted(sums))

    def reaches(self, question, least, *, at=None):
        self.need_question(question)
        self.need_count(least)
        at = self.need_at(at)
        left = self.others()
        counts = {number: self.counts(number, question, at) for number in left}
        read = []
        while True:
            known = self.sure_count(question, at, left)
            low = known + sum(min(counts[number]) for number in left)
            high = known + sum(max(counts[number]) for number in left)
            if low >= least or high < least:
                break
            widest = max(max(counts[number]) - min(counts[number]) for number in left)
            number = min(number for number in left if max(counts[number]) - min(counts[number]) == widest)
            read.append(number)
            left = [other for other in left if other != number]
        self.note(read)
        passed = [(number, min(counts[number]), max(counts[number])) for number in left]
        return Wanted(len(self.meeting_ids(question, at)) >= least, read, passed, question)

    def constant(self, number, column):
        missing, least, greatest = self.facts(number)[1][self.columns.index(column)][2:5]
        return missing == self.facts(number)[0] or missing == 0 and least == greatest

    def shown(self, row_id, *, at=None):
        kept = is_integer(at, self.since, self.version)
        self.need_id(row_id, at if kept else self.version)
        self.need_at(at)
        read = [number for number in self.others() if row_id in self.pieces[number][0]
                and not all(self.constant(number, name) for name in self.columns)]
        return Wanted(self.rows[row_id][2], self.note(read), ())

    def total(self, column, question=None, *, at=None):
        self.need_name(column)
        self.need_question(question)
        at = self.need_at(at)
        if question is not None and column in question.columns:
            raise Refused("Twice", column)
        totals = {number: self.totals(number, column, question, at) for number in self.others()}
        single = {number: ranges[0][0] for number, ranges in totals.items() if len(ranges) == 1 and ranges[0][0] == ranges[0][1]}
        read = self.note([number for number in sorted(totals) if number not in single])
        return Wanted(sum(value for value, _ in self.pairs(column, question, at)), read, sorted(single.items()))

    def leading(self, many, column, question=None, *, down=False, at=None):
        self.need_count(many)
        self.need_name(column)
        self.need_question(question)
        return self.first_of(many, column, question, down, self.need_at(at))

    def first_of(self, many, column, question, down, at):
        sign = -1 if down else 1
        pairs = sorted(self.pairs(column, question, at), key=lambda pair: (sign * pair[0], pair[1]))
        told = pairs[:min(many, len(pairs))]
        values = {number: self.values(number, column, question, at) for number in self.others()}
        bests = []
        for number, ranges in values.items():
            live = self.live_in(number, at)
            if ranges and not (self.constant(number, column) and self.counts(number, question, at) == (len(live),)):
                bests.append((sign * (ranges[-1][1] if down else ranges[0][0]), min(live), number))
        last = (sign * told[-1][0], told[-1][1]) if told else None
        read = [best[2] for best in sorted(bests) if len(told) < many or last is not None and best[:2] <= last]
        self.note(read)
        return Wanted(tuple(told), read, [(number, values[number]) for number in sorted(values) if number not in read])

    def walk(self, column, question=None, *, many=None, down=False, at=None):
        self.need_name(column)
        self.need_question(question)
        if many is not None:
            self.need_count(many)
        at = self.need_at(at)
        return list(self.first_of(len(self.rows) + 1 if many is None else many, column, question, down, at).told)


def meeting_of(one, column, question, other, column_there, question_there, *, at=None, at_there=None):
    """Tell what meeting has to answer for two plain tables."""
    one.need_name(column)
    one.need_question(question)
    other.need_name(column_there)
    other.need_question(question_there)
    ats = one.need_at(at), other.need_at(at_there)
    if one is other:
        raise Refused("SameTable")
    return Encounter((one, other), (column, column_there), (question, question_there), ats).wanted()


class Encounter:
    """A meeting of two plain tables: known has the known (value, id) pairs of both, values those of the other pieces."""

    def __init__(self, tables, names, questions, ats):
        self.asked = list(zip(tables, names, questions, ats))
        self.known = [[], []]
        self.values = {}
        self.read = []
        for side, (table, name, question, at) in enumerate(self.asked):
            for number in table.others():
                live = len(table.live_in(number, at))
                plain = live > 0 and table.constant(number, name) and table.counts(number, question, at) == (live,)
                if not plain:
                    self.values[side, number] = table.values(number, name, question, at)
            hidden = [row_id for place in self.values if place[0] == side for row_id in table.pieces[place[1]][0]]
            self.known[side] = [pair for pair in table.pairs(name, question, at) if pair[1] not in hidden]

    def take(self, places):
        for side, number in places:
            table, name, question, at = self.asked[side]
            del self.values[side, number]
            self.read.append((side, number))
            table.note([number])
            self.known[side] += [pair for pair in table.pairs(name, question, at) if pair[1] in table.pieces[number][0]]

    def rounds(self):
        while True:
            places = sorted(place for place in self.values
                            if any(holds(self.values[place], value) for value, _ in self.known[1 - place[0]]))
            if not places:
                return
            self.take(places)

    def wanted(self):
        self.rounds()
        edges = [(left, right) for left, right in itertools.combinations(sorted(self.values), 2)
                 if left[0] == 0 and right[0] == 1 and both(self.values[left], self.values[right])]
        cover = least_cover_of(edges)
        self.take(cover)
        self.rounds()
        told = sorted((row_id, other_id) for value, row_id in self.known[0] for other, other_id in self.known[1]
                      if value == other)
        passed = [(place, self.values[place]) for place in sorted(self.values)]
        return Wanted(tuple(told), self.read, passed, cover=tuple(cover), edges=edges)


def least_cover_of(edges):
    """Return the least of the smallest covers, by trying all sets."""
    places = sorted({place for edge in edges for place in edge})
    for many in range(len(places) + 1):
        for chosen in itertools.combinations(places, many):
            if all(left in chosen or right in chosen for left, right in edges):
                return chosen


def shows(question, facts, live, low, high, evidence):
    """Tell whether what stands in passed is evidence that all counts are from low to high."""
    if question is None:
        return evidence == () and low == high == live
    return shows_settled(question, facts, live, low, high, evidence)
