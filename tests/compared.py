"""Views compared with what a plain memory tells, and with one another."""

from plain import Plain, Touched
from roundheap.errors import Grown, LimitExceeded
from roundheap.runs import Run


def told_by(view):
    """All that a view tells but its log."""
    rows = {number: view.row(number) for number in view.objects()}
    return {"rows": rows, "variables": view.variables(), "weak": view.weak(), "news": view.news(), "steps": view.steps(),
            "peak": view.peak(), "count": view.count(), "units": view.units(), "retired": view.retired(),
            "pools": {size: view.pool(size) for size in range(1, 9)}, "collections": view.collections()}


def check_view(test, view, seen, plain, spot):
    told = told_by(view)
    for word in told:
        if word == "collections":
            test.assertEqual(told[word], seen["news"] // plain.program.threshold())
        else:
            test.assertEqual(told[word], seen[word], (spot, word))
    for number in view.objects():
        test.assertEqual(view.address(number), seen["rows"][number][4])
    for held in (seen["variables"], seen["weak"]):
        for name in held:
            if held is seen["variables"] or name not in seen["variables"]:
                test.assertEqual(view.value(name), held[name])
    log = view.log()
    test.assertEqual(log.length(), seen["log"], spot)
    first = max(0, seen["log"] - 900)
    test.assertEqual(log.entries(first, seen["log"]), plain.log[first:seen["log"]])


def spots_to_check(rng, run, plain, most):
    """Some spots by chance, the last ones, and those in the rounds around the one in which growth is found."""
    spots = list(plain.seen)
    chosen = spots[-4:] + rng.sample(spots, min(most, len(spots)))
    for spot, repeat in plain.repeats.items():
        if repeat.rhythm is not None and len(spot) == 1:
            rounds = repeat.rhythm[3]
            near = [other for other in spots if other[:1] == spot and len(other) > 1 and abs(other[1] - rounds) < 2]
            chosen += rng.sample(near, min(most // 2, len(near)))
    return chosen


def compare(test, rng, program, most=25):
    """Compare a run with a plain memory; return a word for how it was."""
    plain = Plain(program)
    touched = None
    try:
        plain.play()
    except Touched as error:
        touched = error.args[0]
    try:
        run = Run(program)
    except Grown as error:
        test.assertEqual(error.spot, touched)
        return "grown"
    except LimitExceeded:
        return "limit"
    test.assertIsNone(touched)
    test.assertEqual([run.ended(), run.work()], [plain.end, plain.work])
    test.assertEqual(run.last_spot(), (len(program.body()),) if plain.end == ("done",) else plain.end[1])
    words = [plain.end[0]]
    for spot, repeat in plain.repeats.items():
        rhythm = repeat.rhythm or ("over", repeat.begun)
        test.assertEqual(run.rhythm(spot), rhythm, spot)
        if len(spot) == 1:
            words.append(rhythm[0] + ("+" if repeat.times > rhythm[-1] else ""))
    for spot in spots_to_check(rng, run, plain, most):
        check_view(test, run.view(spot), plain.seen[spot], plain, spot)
    return " ".join(words)


def same_views(test, one, other, but=()):
    left, right = told_by(one), told_by(other)
    for word in left:
        if word not in but:
            test.assertEqual(left[word], right[word], word)
    if "log" not in but:
        test.assertEqual(one.log(), other.log())
