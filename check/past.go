package check

import (
	"slices"

	"skewer/api"
	"skewer/play"
	"skewer/pos"
)

// past is what is kept in mind of the positions before a position q.
type past struct {
	known bool     // there is no error
	wrong bool     // q is not a move from one of them
	from  []string // the keys of those that are in the list
}

// misses reports whether p, which is in the list, is missing among the positions before q.
func (b past) misses(p api.Pos) bool {
	return b.known && !slices.Contains(b.from, pos.Key(p))
}

// pasts returns a function that finds the past of a position, for the list l. It goes back from each position only once: many moves lead to the same one. Of what it finds, it does not keep all in mind, which could be very much.
func pasts(g api.Game, l []api.Pos, before func(api.Pos) ([]api.Pos, api.Errno)) func(api.Pos) past {
	listed := map[string]bool{}
	for _, p := range l {
		listed[pos.Key(p)] = true
	}
	found := map[string]past{}
	return func(q api.Pos) past {
		key := pos.Key(q)
		if b, ok := found[key]; ok {
			return b
		}
		all, e := before(q)
		b := past{known: e == api.OK}
		for _, p := range all {
			b.wrong = b.wrong || !play.Legal(g, p, q)
			if k := pos.Key(p); listed[k] {
				b.from = append(b.from, k)
			}
		}
		found[key] = b
		return b
	}
}
