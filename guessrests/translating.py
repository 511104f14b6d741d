"""Conditions in a form that is easy to decide.

In this form, each variable has a number of its own, its track; "not" stands only before the
simplest conditions; and "some" and "each" reach no further than needed. A part is one of

- (word, track, track, holds), where word is "in", "fits", "same" or "before", and holds is
  True or False;
- ("both", parts) or ("either", parts), with a tuple of two or more parts;
- ("some", track, part) or ("each", track, part).
"""

_OTHER = {"both": "either", "either": "both", "some": "each", "each": "some"}


class Translation:
    """The form of a condition, with the kinds of its tracks; the told variables have the first tracks."""

    def __init__(self, condition, free):
        self.kinds = [kind for _, kind in free]
        scope = {pair[0]: track for track, pair in enumerate(free)}
        self.part = self._translated(condition, scope, True)

    def _translated(self, condition, scope, holds):
        """Return the form of the condition, or of its opposite if `holds` is False."""
        word = condition[0]
        if word == "not":
            return self._translated(condition[1], scope, not holds)
        if word in ("both", "either"):
            parts = [self._translated(part, scope, holds) for part in condition[1:]]
            return _joined(word if holds else _OTHER[word], parts)
        if word in ("some", "each"):
            track = len(self.kinds)
            self.kinds.append(condition[2])
            inner = dict(scope)
            inner[condition[1]] = track
            part = self._translated(condition[3], inner, holds)
            return _narrowed(word if holds else _OTHER[word], track, part)
        return word, scope[condition[1]], scope[condition[2]], holds


def tracks_of(part):
    """Return the tracks that stand in the part, but are not bound in it, in ascending order."""
    if part[0] in ("both", "either"):
        return sorted(set([track for inner in part[1] for track in tracks_of(inner)]))
    if part[0] in ("some", "each"):
        return [track for track in tracks_of(part[2]) if track != part[1]]
    return sorted(set(part[1:3]))


def opposite_part(part):
    """Return the part that holds where this one does not."""
    if part[0] in ("both", "either"):
        return _OTHER[part[0]], tuple([opposite_part(inner) for inner in part[1]])
    if part[0] in ("some", "each"):
        return _OTHER[part[0]], part[1], opposite_part(part[2])
    return part[0], part[1], part[2], not part[3]


def _joined(word, parts):
    """Return the part that joins one or more parts by "both" or "either"."""
    flat = []
    for part in parts:
        if part[0] == word:
            flat.extend(list(part[1]))
        else:
            flat.append(part)
    return flat[0] if len(flat) == 1 else (word, tuple(flat))


def _narrowed(word, track, part):
    """Return the part for "some" or "each" of the track, which reaches no further than needed."""
    # Names, things and lengths exist, so a variable that does not stand there makes no difference.
    if track not in tracks_of(part):
        return part
    spread, kept = ("either", "both") if word == "some" else ("both", "either")
    if part[0] == spread:
        groups = _groups_of(part[1])
        if len(groups) > 1:
            return _joined(spread, [_narrowed(word, track, _joined(spread, group)) for group in groups])
    if part[0] == kept:
        inside = [inner for inner in part[1] if track in tracks_of(inner)]
        if len(inside) < len(part[1]):
            outside = [inner for inner in part[1] if track not in tracks_of(inner)]
            return _joined(kept, outside + [_narrowed(word, track, _joined(kept, inside))])
    return word, track, part


def _groups_of(parts):
    """Return the parts in lists: each part is in a list with one that has all of its tracks, where there is one.

    Parts that speak of the same tracks are best decided together; others had better not meet.
    """
    groups = []
    tracks_of_groups = []
    for part in sorted(parts, key=_many_tracks_first):
        tracks = tracks_of(part)
        fitting = [at for at, wide in enumerate(tracks_of_groups) if all([track in wide for track in tracks])]
        if fitting:
            groups[fitting[0]].append(part)
        else:
            groups.append([part])
            tracks_of_groups.append(tracks)
    return groups


def _many_tracks_first(part):
    """Return a number that is less for parts with more tracks."""
    return -len(tracks_of(part))
