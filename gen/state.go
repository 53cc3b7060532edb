package gen

import (
	"slices"

	"skewer/api"
	"skewer/game"
)

// fold does the elements of l, one after the other, from s on, and returns what comes of it, and whether all of them could be done.
func fold[S, E any](l []E, s S, do func(S, E) (S, bool)) (S, bool) {
	for _, e := range l {
		next, ok := do(s, e)
		if !ok {
			return s, false
		}
		s = next
	}
	return s, true
}

// state is where a man has come to on a path. It is not on the board of pos, whose turn is that of its side. States share their positions: what changes one changes a copy.
type state struct {
	game *api.Game
	pos  api.Pos
	kind int // of the man
	took bool
}

// after returns the state after the act, and whether it could be done.
func (s state) after(a api.Act) (state, bool) {
	switch a.Op {
	case api.Empty:
		return s, s.content(a.A) == 0
	case api.Enemy:
		return s, s.owner(a.A) == 1-s.pos.Side
	case api.Friend:
		return s, s.owner(a.A) == s.pos.Side
	case api.Take:
		return s.take(a.A)
	case api.Push:
		return s.push(a.A, a.B)
	case api.Become:
		s.kind = a.A
		return s, true
	case api.Need:
		return s, s.pos.Rights&bit(a.A) != 0
	case api.Lose:
		s.pos.Rights &^= bit(a.A)
		return s, true
	}
	return s, false
}

// content returns the content of the cell, or -1 if there is no such cell.
func (s state) content(cell int) int {
	if cell < 0 || cell >= len(s.pos.At) {
		return -1
	}
	return s.pos.At[cell]
}

// owner returns the side of the man on the cell, or -1.
func (s state) owner(cell int) int {
	_, side := game.Man(s.content(cell))
	return side
}

// take takes the man of the other side on the cell away, and into the hand if it is kept.
func (s state) take(cell int) (state, bool) {
	kind, side := game.Man(s.content(cell))
	if side != 1-s.pos.Side {
		return s, false
	}
	s.pos, s.took = with(s.pos, cell, 0), true
	hand := s.pos.Hand[s.pos.Side]
	if s.game.Kinds[kind].Keep {
		hand[kind]++
	}
	return s, hand[kind] <= api.MaxHand
}

// push puts the man on one cell on another one, which has to be empty.
func (s state) push(from, to int) (state, bool) {
	man := s.content(from)
	if man <= 0 || s.content(to) != 0 {
		return s, false
	}
	s.pos = with(s.pos, from, 0)
	s.pos.At[to] = man
	return s, true
}

// outcome returns what comes of it when the man is put on the cell in s.
func (s state) outcome(cell int) api.Outcome {
	p := with(s.pos, cell, game.Code(s.kind, s.pos.Side))
	p.Side = 1 - p.Side
	return api.Outcome{Pos: p, Took: s.took}
}

// with returns a copy of p with the content on the cell, which shares no memory with p.
func with(p api.Pos, cell, content int) api.Pos {
	p.At = slices.Clone(p.At)
	for side, hand := range p.Hand {
		p.Hand[side] = slices.Clone(hand)
	}
	p.At[cell] = content
	return p
}

// bit returns the bit of a right.
func bit(right int) int {
	// The number is made unsigned since a negative shift, for a code that does not fit, would panic.
	return 1 << uint(right)
}
