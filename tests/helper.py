"""What several tests use: outcomes of calls, examples as the document writes them."""

import copy
import itertools
import os

from tornreads import errors

EXAMPLES = os.path.join(os.path.dirname(os.path.abspath(__file__)), "examples")

# Values of every kind that may be handed in as "any value".
ODD_VALUES = (
    None, True, False, 0, 1, -1, 5, 10 ** 399, "", "x", "0", "1:2", "a\nb", (), (()), ((),), [], [1, 2], [(0,)],
    {}, {"a": 1}, {(1, 2): [3]}, (None,), (True,), (False,), ("0",), ([0],), ((0,),), ({},), (1, "x"), (-5, 10 ** 300),
)
RING = (((0, 0), (1, 0), (1, 1), (0, 1), (0, 0)), (0, 1, 2, 3, 4))
STILL = (((0,), (1,), (1,), (2,)), (10, 10, 15, 15))
# Words and values that stand several times, values that stand still, one cell and more.
TABLES = (
    RING, STILL, (RING[0][:4], RING[1][:4]), (((0, 0),), (7,)), (((3,),) * 4, (1, 1, 2, 9)),
    (((0, 1), (1, 0), (0, 1), (1, 0), (1, 1), (0, 0)), (-5, -5, 0, 0, 0, 8)),
    (((0, 0, 0), (1, 0, 0), (0, 1, 0), (1, 1, 0), (0, 0, 1), (199, 0, 1)), (-10 ** 12, -1, 0, 1, 1, 10 ** 12)),
    (((0, 0), (1, 0), (2, 0), (0, 1), (1, 1), (2, 1)), (0, 1, 2, 3, 4, 5)),
)
SPEEDS = (None, 0, 1, 2, 3, 200)


def outcome(function, *places, **names):
    """What a call comes to, so that 1 and True, (1,) and [1] are unlike: the kind, and what is told."""
    try:
        return "returns", repr(function(*places, **names))
    except errors.TornError as error:
        return "raises", error.__class__.__name__ + repr(sorted(vars(error).items()))


def raised(error):
    """The outcome of a call that raises error."""
    return "raises", error.__class__.__name__ + repr(sorted(vars(error).items()))


def returned(value):
    """The outcome of a call that returns value."""
    return "returns", repr(value)


def check_calls(case, function, names, calls):
    """Each call tells the same by place, by name, and again, and changes nothing that it is handed."""
    for call in calls:
        with case.subTest(function=function.__name__, call=call):
            before = repr(copy.deepcopy(call))
            by_place = outcome(function, *call)
            by_name = dict(zip(names, call))
            turned = dict(reversed(list(by_name.items())))
            case.assertEqual(len(names), len(call))
            case.assertEqual(outcome(function, **by_name), by_place)
            case.assertEqual(outcome(function, **turned), by_place)
            case.assertEqual(outcome(function, call[0], **{name: by_name[name] for name in names[1:]}), by_place)
            case.assertEqual(outcome(function, *call), by_place)
            case.assertEqual(outcome(function, *copy.deepcopy(call)), by_place)
            case.assertEqual(repr(call), before)


def run_examples(file, names):
    """Runs the examples of a file in names; yields (line, what came, what should have come)."""
    with open(os.path.join(EXAMPLES, file), encoding="ascii") as text:
        lines = text.read().splitlines()
    for line, after in zip(lines, lines[1:] + [">>> "]):
        if not line.startswith(">>> "):
            continue
        if after.startswith(">>> "):
            exec(line[4:], names)
        elif after.startswith("raises "):
            yield line, outcome(eval, line[4:], names), raised(eval(after[7:], vars(errors)))
        else:
            yield line, outcome(eval, line[4:], names), ("returns", after)


def changed_texts(text, signs):
    """All texts that come of text by one sign left out, doubled, put in, or exchanged, and text cut short."""
    changed = [text[:at] for at in range(len(text))]
    for at in range(len(text)):
        changed.append(text[:at] + text[at + 1:])
        changed.append(text[:at] + text[at] + text[at:])
        changed.extend([text[:at] + sign + text[at + 1:] for sign in signs])
    for at in range(len(text) + 1):
        changed.extend([text[:at] + sign + text[at:] for sign in signs])
    return changed


def all_lots(counter):
    """All lots of counter."""
    places = range(len(counter))
    return [lot for many in range(1, len(counter) + 1) for lot in itertools.combinations(places, many)]


def all_sights(counter, lot):
    """All sights of lot."""
    return list(itertools.product(*[range(counter[place]) for place in lot]))


def plain_digits(counter):
    """The digits of all values of counter, ascending, by counting and carrying alone."""
    every = itertools.product(*[range(base) for base in reversed(counter)])
    return [tuple(reversed(digits)) for digits in every]


def plain_showing(counter, lot, sight):
    """All values that show sight, ascending, by going through all values."""
    return [
        number for number, digits in enumerate(plain_digits(counter))
        if tuple([digits[place] for place in lot]) == sight
    ]


def plain_count(counter, lot, sight, limit):
    """How many values below limit show sight: those that part from limit at each place, from the greatest one down."""
    told = dict(zip(lot, sight))
    ways = [1]
    for place, base in enumerate(counter):
        ways.append(ways[-1] * (1 if place in told else base))
    if limit >= plain_size(counter):
        return ways[-1]
    count = 0
    left = limit
    for place in range(len(counter) - 1, -1, -1):
        weight = plain_size(counter[:place])
        due = left // weight
        left -= due * weight
        if place not in told:
            count += due * ways[place]
            continue
        if told[place] < due:
            count += ways[place]
        if told[place] != due:
            return count
    return count


def plain_size(counter):
    """The product of the bases."""
    size = 1
    for base in counter:
        size = size * base
    return size


def plain_nth(counter, lot, sight, number):
    """The value that shows sight with just number ones below it, None if there is none: found by halving."""
    if number < 0 or number >= plain_count(counter, lot, sight, plain_size(counter)):
        return None
    least, greatest = 0, plain_size(counter) - 1
    while least < greatest:
        middle = (least + greatest) // 2
        if plain_count(counter, lot, sight, middle + 1) > number:
            greatest = middle
        else:
            least = middle + 1
    return least


def plain_ahead(counter, lot, sight, start):
    """What ahead_from has to come to, found by counting."""
    return plain_nth(counter, lot, sight, plain_count(counter, lot, sight, start))


def plain_back(counter, lot, sight, start):
    """What back_to has to come to, found by counting."""
    return plain_nth(counter, lot, sight, plain_count(counter, lot, sight, start + 1) - 1)


def rows_up_to(counter, many):
    """All rows of counter with up to so many reads."""
    lots = all_lots(counter)
    return [row for reads in range(1, many + 1) for row in itertools.product(lots, repeat=reads)]


def all_words(counter, row):
    """All words of row."""
    return list(itertools.product(*[all_sights(counter, lot) for lot in row]))


def all_runs(counter, row):
    """All runs of row."""
    return list(itertools.combinations_with_replacement(range(plain_size(counter)), len(row)))


def runs_by_word(counter, row):
    """For each word that some run of row reads all runs that read it."""
    every = plain_digits(counter)
    found = {}
    for run in all_runs(counter, row):
        word = tuple([tuple([every[number][place] for place in lot]) for lot, number in zip(row, run)])
        found.setdefault(word, []).append(run)
    return found


def plain_rungs(counter, way):
    """The rungs of way, as the document tells them."""
    m = len(counter)
    down = [m - 1 - k for k in range(m)]
    return {"down": down, "up": list(range(m)), "mirror": down + list(range(1, m))}[way]


def plain_ladders(counter, row, way):
    """All ladders of way, by going through all tuples of read numbers that never fall."""
    rungs = plain_rungs(counter, way)
    reads = itertools.combinations_with_replacement(range(len(row)), len(rungs))
    return [ladder for ladder in reads if all(place in row[read] for place, read in zip(rungs, ladder))]


def plain_has(counter, row, want):
    """Whether row has want."""
    if want == "both":
        return plain_has(counter, row, "down") and plain_has(counter, row, "up")
    return plain_ladders(counter, row, want) != []


def plain_told(counter, word, row):
    """The value that word tells, None if its digits do not agree or do not tell all places."""
    told = [{digit for lot, sight in zip(row, word) for at, digit in zip(lot, sight) if at == place}
            for place in range(len(counter))]
    if any(len(digits) != 1 for digits in told):
        return None
    return sum(digits.pop() * plain_size(counter[:place]) for place, digits in enumerate(told))


def all_looks(table, many):
    """All looks at the cells of table, up to so many, at one cell or at all cells or at the first two."""
    cells = range(len(table[0][0]))
    lots = sorted({(cell,) for cell in cells} | {tuple(cells)} | {tuple(cells)[:2]})
    return [looks for looks_many in range(1, many + 1) for looks in itertools.product(lots, repeat=looks_many)]


def plain_states(table, speed, many):
    """All runs of so many looks, by going through all tuples of states."""
    return [
        run for run in itertools.combinations_with_replacement(range(len(table[0])), many)
        if speed is None or all(after - before <= speed for before, after in zip(run, run[1:]))
    ]


def plain_word(table, looks, run):
    """The word that run reads."""
    return tuple([tuple([table[0][state][cell] for cell in lot]) for lot, state in zip(looks, run)])


def read_words(table, speed, looks):
    """For each word that some run reads all runs that read it."""
    found = {}
    for run in plain_states(table, speed, len(looks)):
        found.setdefault(plain_word(table, looks, run), []).append(run)
    return found


def clock_runs(sizes, clock):
    """For each word that some run through clock reads all runs that read it."""
    found = {}
    for run in itertools.combinations_with_replacement(range(len(clock)), len(sizes)):
        found.setdefault(tuple([clock[state][cell] for cell, state in enumerate(run)]), []).append(run)
    return found


def is_torn(found):
    """Whether two runs that read one word are apart, told all runs of each word."""
    return any(min(run[-1] for run in runs) < max(run[0] for run in runs) for runs in found.values())


def plain_torn(clock):
    """Whether a clock is torn, by all cuts of its states: a word that is read ahead of the cut, and behind it."""
    cells = range(len(clock[0]))
    for cut in range(1, len(clock)):
        met = {(0, cut)}
        for cell in cells:
            behind = set()
            for one, other in met:
                for sign in {clock[state][cell] for state in range(one, cut)}:
                    near = [state for state in range(one, cut) if clock[state][cell] == sign]
                    far = [state for state in range(other, len(clock)) if clock[state][cell] == sign]
                    if far:
                        behind.add((near[0], far[0]))
            met = behind
        if met:
            return True
    return False


def random_reader(pick, table, deep):
    """A reader over table of at most so many looks in a row, whose leaves tell values at and beside those of states."""
    reader = random_node(pick, table, deep)
    return reader if many_nodes(reader) <= 60 else random_reader(pick, table, deep)


def many_nodes(node):
    """How many nodes a right reader has."""
    return 1 if node[0] != "look" else 1 + sum(many_nodes(below) for _, below in node[2])


def random_node(pick, table, deep):
    """A look of which at most so many stand in a row, itself among them."""
    words, values = table
    cells = range(len(words[0]))
    lot = tuple(sorted(pick.sample(cells, pick.randrange(1, len(cells) + 1))))
    shown = {tuple([word[cell] for cell in lot]) for word in words}
    sights = sorted({sight for sight in shown if pick.randrange(6)} | {(pick.randrange(3),) * len(lot)})
    branches = []
    for sight in sights:
        if deep > 1 and pick.randrange(3):
            branches.append((sight, random_node(pick, table, deep - 1)))
        elif pick.randrange(5):
            beside = pick.choice(values) + pick.choice((0, 0, 0, 1, -1))
            branches.append((sight, ("tell", max(-10 ** 12, min(10 ** 12, beside)))))
        else:
            branches.append((sight, ("again",)))
    return ("look", lot, tuple(branches))
