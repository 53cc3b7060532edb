package check

import (
	"slices"

	"skewer/api"
	"skewer/attack"
	"skewer/back"
	"skewer/gen"
	"skewer/play"
	"skewer/pos"
	"skewer/slice"
	"skewer/sym"
)

// condition reports whether a part is wrong at p, from which the moves are these.
type condition func(p api.Pos, moves []api.Pos) bool

// conditions returns the condition of each part, for the positions of l.
func conditions(g api.Game, d api.Derived, l []api.Pos) [api.Progress + 1]condition {
	before := func(q api.Pos) ([]api.Pos, api.Errno) { return back.Back(g, q) }
	return [...]condition{
		api.Forward:  forward(g, d.Code),
		api.Backward: backward(pasts(g, l, before)),
		api.Attacks:  attacks(g, attack.Update),
		api.Symmetry: symmetry(g, d.Syms, sym.Valid),
		api.Progress: progress(g, d.Measure, slice.Valid),
	}
}

// forward returns the condition that the moves by the code are others.
func forward(g api.Game, c api.Code) condition {
	return func(p api.Pos, moves []api.Pos) bool {
		same := func(a, b api.Pos) bool { return pos.Compare(a, b) == 0 }
		return !slices.EqualFunc(gen.Moves(g, c, p), moves, same)
	}
}

// backward returns the condition that going back from a move misses p, or that going back from p leads to where p is no move.
func backward(pastOf func(q api.Pos) past) condition {
	return func(p api.Pos, moves []api.Pos) bool {
		misses := func(q api.Pos) bool { return pastOf(q).misses(p) }
		return slices.ContainsFunc(moves, misses) || pastOf(p).wrong
	}
}

// attacks returns the condition that the lines are others if they are updated after a move than if they are made anew.
func attacks(g api.Game, update func(api.Game, api.Attack, api.Pos) api.Attack) condition {
	return func(p api.Pos, moves []api.Pos) bool {
		a := attack.Make(g, p)
		differs := func(q api.Pos) bool {
			return !slices.EqualFunc(update(g, a, q).Men, attack.Make(g, q).Men, sameLines)
		}
		return slices.ContainsFunc(moves, differs)
	}
}

// sameLines reports whether two men have the same lines.
func sameLines(a, b api.Lines) bool {
	return a.Cell == b.Cell && slices.Equal(a.Reads, b.Reads) && slices.Equal(a.Takes, b.Takes)
}

// symmetry returns the condition that one of the symmetries is none, or does not preserve the moves or the end.
func symmetry(g api.Game, l []api.Sym, valid func(api.Game, api.Sym) bool) condition {
	none := slices.ContainsFunc(l, func(s api.Sym) bool { return !valid(g, s) })
	return func(p api.Pos, moves []api.Pos) bool {
		out, over := play.Status(g, p)
		changes := func(s api.Sym) bool {
			image := sym.Apply(s, p)
			n, end := play.Status(g, image)
			return n != out || end != over || !areImages(s, moves, play.Moves(g, image))
		}
		return none || slices.ContainsFunc(l, changes)
	}
}

// areImages reports whether the images of the positions of l are those of the sorted list m. Both lists have each position once; so do the images of l.
func areImages(s api.Sym, l, m []api.Pos) bool {
	missing := func(p api.Pos) bool { return pos.Find(m, sym.Apply(s, p)) < 0 }
	return len(l) == len(m) && !slices.ContainsFunc(l, missing)
}

// progress returns the condition that the measure is not right, or that a move leads to a greater level.
func progress(g api.Game, m api.Measure, valid func(api.Game, api.Measure) bool) condition {
	right := valid(g, m)
	return func(p api.Pos, moves []api.Pos) bool {
		rises := func(q api.Pos) bool { return slice.Leaves(m, q, p) }
		return !right || slices.ContainsFunc(moves, rises)
	}
}
