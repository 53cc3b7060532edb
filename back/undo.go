package back

import (
	"iter"
	"slices"

	"skewer/api"
	"skewer/game"
)

// way is a path to a cell. The man that takes it has the content before on the cell from, and the content after in the end.
type way struct {
	from          int
	before, after int
	acts          []api.Act
}

// waysOf returns the ways of a code of a game with so many cells, by the side and by the cell to which they lead.
func waysOf(c api.Code, cells int) [2][][]way {
	var all [2][][]way
	for side, kinds := range c.Paths {
		all[side] = make([][]way, cells)
		for kind, starts := range kinds {
			for cell, paths := range starts {
				for _, p := range paths {
					w := way{cell, game.Code(kind, side), game.Code(lastKind(kind, p.Acts), side), p.Acts}
					all[side][p.To] = append(all[side][p.To], w)
				}
			}
		}
	}
	return all
}

// lastKind returns the kind that a man of the kind has after the acts.
func lastKind(kind int, acts []api.Act) int {
	for _, a := range acts {
		if a.Op == api.Become {
			kind = a.A
		}
	}
	return kind
}

// candidates yields the positions from which a way or a drop leads to p, perhaps several times. Some of them may be over, and some may have to capture.
func candidates(kinds []api.Kind, ways [2][][]way, p api.Pos) iter.Seq[api.Pos] {
	return func(yield func(api.Pos) bool) {
		for cell, content := range p.At {
			kind, side := game.Man(content)
			if side != 1-p.Side {
				continue
			}
			lifted := with(p, cell, 0)
			lifted.Side = side
			if kinds[kind].Keep && p.Hand[side][kind] < api.MaxHand && !yield(inHand(lifted, kind, 1)) {
				return
			}
			for _, w := range ways[side][cell] {
				if w.after == content && !w.undo(kinds, lifted, yield) {
					return
				}
			}
		}
	}
}

// undo yields the positions from which a man takes the way to p, where it is lifted, and reports whether more may be yielded.
func (w way) undo(kinds []api.Kind, p api.Pos, yield func(api.Pos) bool) bool {
	return undoAll(kinds, w.acts, p, func(q api.Pos) bool {
		return q.At[w.from] != 0 || yield(with(q, w.from, w.before))
	})
}

// undoAll yields the positions from which the acts lead to p, and reports whether more may be yielded.
func undoAll(kinds []api.Kind, acts []api.Act, p api.Pos, yield func(api.Pos) bool) bool {
	if len(acts) == 0 {
		return yield(p)
	}
	last := len(acts) - 1
	for q := range undone(kinds, acts[last], p) {
		if !undoAll(kinds, acts[:last], q, yield) {
			return false
		}
	}
	return true
}

// undone returns the sequence of the positions from which the act leads to p. The man that does it is on none of them, and it is the turn of its side.
func undone(kinds []api.Kind, a api.Act, p api.Pos) iter.Seq[api.Pos] {
	switch a.Op {
	case api.Empty:
		return onlyIf(p.At[a.A] == 0, p)
	case api.Enemy:
		return onlyIf(owner(p, a.A) == 1-p.Side, p)
	case api.Friend:
		return onlyIf(owner(p, a.A) == p.Side, p)
	case api.Take:
		return untaken(kinds, a.A, p)
	case api.Push:
		return unpushed(a.A, a.B, p)
	case api.Need:
		return onlyIf(p.Rights&(1<<a.A) != 0, p)
	case api.Lose:
		return unlost(1<<a.A, p)
	}
	// What is left is Become, which is known from the content in the end.
	return onlyIf(true, p)
}

// onlyIf returns the sequence of p alone if the condition holds, and of nothing otherwise.
func onlyIf(holds bool, p api.Pos) iter.Seq[api.Pos] {
	return func(yield func(api.Pos) bool) {
		if holds {
			yield(p)
		}
	}
}

// untaken yields the positions in which a man of any kind, of the other side, was taken from the cell.
func untaken(kinds []api.Kind, cell int, p api.Pos) iter.Seq[api.Pos] {
	return func(yield func(api.Pos) bool) {
		if p.At[cell] != 0 {
			return
		}
		for kind, k := range kinds {
			q := with(p, cell, game.Code(kind, 1-p.Side))
			if k.Keep {
				q = inHand(q, kind, -1)
			}
			if q.Hand[q.Side][kind] >= 0 && !yield(q) {
				return
			}
		}
	}
}

// unpushed yields the position in which the man on one cell was on another one, from which it was pushed, if there is one.
func unpushed(from, to int, p api.Pos) iter.Seq[api.Pos] {
	return func(yield func(api.Pos) bool) {
		// From a cell to itself, nothing is pushed.
		if p.At[from] == 0 && p.At[to] != 0 {
			yield(with(with(p, from, p.At[to]), to, 0))
		}
	}
}

// unlost yields the positions in which the right was lost, or was not there: those with its bit, and without it.
func unlost(bit int, p api.Pos) iter.Seq[api.Pos] {
	return func(yield func(api.Pos) bool) {
		if p.Rights&bit != 0 || !yield(p) {
			return
		}
		q := p
		q.Rights |= bit
		yield(q)
	}
}

// owner returns the side of the man on the cell, or -1.
func owner(p api.Pos, cell int) int {
	_, side := game.Man(p.At[cell])
	return side
}

// with returns p with the content on the cell. It shares the hands with p.
func with(p api.Pos, cell, content int) api.Pos {
	p.At = slices.Clone(p.At)
	p.At[cell] = content
	return p
}

// inHand returns p with n more men of the kind in the hand of the mover. It shares the rest with p.
func inHand(p api.Pos, kind, n int) api.Pos {
	hand := slices.Clone(p.Hand[p.Side])
	hand[kind] += n
	p.Hand[p.Side] = hand
	return p
}
