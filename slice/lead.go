package slice

import (
	"math/bits"

	"skewer/api"
)

// set is a set of kinds: its bit k is 1 if it has the kind k.
type set uint

// with returns s and the kind.
func (s set) with(kind int) set {
	return s | 1<<kind
}

// has reports whether s has the kind.
func (s set) has(kind int) bool {
	return s>>kind&1 == 1
}

// size returns the number of kinds that s has.
func (s set) size() int {
	return bits.OnesCount(uint(s))
}

// leads returns for each kind of g, which must not have too many, the kinds to which it leads.
func leads(g api.Game) [api.MaxKinds]set {
	var to [api.MaxKinds]set
	for kind := range g.Kinds {
		to[kind] = to[kind].with(kind)
		for _, other := range becomes(g, kind) {
			to[kind] = to[kind].with(other)
		}
	}
	// After the round of a kind, each way is known that goes through that kind and those before it alone.
	for via := range to {
		for kind := range to {
			if to[kind].has(via) {
				to[kind] |= to[via]
			}
		}
	}
	return to
}

// becomes returns the kinds that the kind becomes, some perhaps several times.
func becomes(g api.Game, kind int) []int {
	var others []int
	for _, p := range g.Kinds[kind].Progs {
		for _, s := range p {
			// In a game that is not valid, there may be steps to kinds that are not there.
			if s.Op == api.Become && s.N >= 0 && s.N < len(g.Kinds) {
				others = append(others, s.N)
			}
		}
	}
	return others
}
