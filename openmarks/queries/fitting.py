"""Which beginnings of a word fit a pattern.

A pattern is given by its parts, those of inner patterns first. A part is a tuple that
begins with the word of its text: ("path", masks), ("not",), ("either",), ("both",),
("below",), ("first",), ("unbroken",) or ("counted", times, rest).
"""


def masks_of(steps):
    """Return what is needed to read a word along the steps of a path.

    These are the number of steps, the steps with one slash and those with two, and the
    steps for each label and for all other labels. A set of steps is an integer. Its
    bit k is for the step k where it tells the slashes, and else for k + 1, so that the
    bit 0 means that no step was taken.
    """
    direct = wide = 0
    marks = {}
    for k, step in enumerate(steps):
        if step.startswith("//"):
            wide = wide | 1 << k
        else:
            direct = direct | 1 << k
        label = step.replace("/", "")
        marks[label] = marks.get(label, 0) | 2 << k
    star = marks.get("*", 0)
    return (len(steps), direct, wide, star, {label: marks[label] | star for label in marks})


def path_fits(masks, word):
    """Return for each beginning of the word whether it fits a path."""
    length, direct, wide, star, marks = masks
    # The steps whose position can be the last one, and those that were possible so far.
    last = ever = 1
    fits = []
    for label in word:
        last = ((last & direct | ever & wide) << 1) & marks.get(label, star)
        ever = ever | last
        fits.append(last >> length == 1)
    return fits


def below_fits(inner):
    """Return for each beginning whether a shorter one fits the inner pattern."""
    fits = []
    seen = False
    for fit in inner:
        fits.append(seen)
        seen = seen or fit
    return fits


def unbroken_fits(inner):
    """Return for each beginning whether it and all shorter ones fit the inner pattern."""
    fits = []
    whole = True
    for fit in inner:
        whole = whole and fit
        fits.append(whole)
    return fits


def counted_fits(inner, times, rest):
    """Return for each beginning whether the number of those that fit leaves the rest."""
    fits = []
    many = 0
    for fit in inner:
        if fit:
            many = (many + 1) % times
        fits.append(many == rest)
    return fits


def fits_behind(part, inner):
    """Return which beginnings fit a part that is made of one inner pattern."""
    if part[0] == "not":
        return [not fit for fit in inner]
    if part[0] == "below":
        return below_fits(inner)
    if part[0] == "first":
        return [fit and not seen for fit, seen in zip(inner, below_fits(inner))]
    if part[0] == "unbroken":
        return unbroken_fits(inner)
    return counted_fits(inner, part[1], part[2])


def fits_along(parts, word):
    """Return for each beginning of the word, the empty one left out, whether it fits."""
    found = []
    for part in parts:
        if part[0] == "path":
            found.append(path_fits(part[1], word))
            continue
        inner = found.pop()
        if part[0] == "either":
            other = found.pop()
            found.append([one or two for one, two in zip(other, inner)])
        elif part[0] == "both":
            other = found.pop()
            found.append([one and two for one, two in zip(other, inner)])
        else:
            found.append(fits_behind(part, inner))
    return found.pop()
