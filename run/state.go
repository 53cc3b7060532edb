package run

import (
	"skewer/api"
	"skewer/board"
	"skewer/game"
	"skewer/pos"
)

// state is where a way has come to. The man that runs is not on the board of pos. States share their positions: what changes one changes a copy.
type state struct {
	game *api.Game
	pos  api.Pos
	cell int // of the cursor
	kind int // of the man that runs
	took bool
}

// key is what the rest of a way depends on; states are equal if their keys are.
type key struct {
	cell, kind int
	took       bool
	pos        string
}

// key returns the key of s.
func (s state) key() key {
	return key{s.cell, s.kind, s.took, pos.Key(s.pos)}
}

// after returns the states in which the ways from s go on after the step: none if it cannot be done.
func (s state) after(step api.Step) []state {
	deeds := [...]func(state, int) []state{
		api.Go:     state.walk,
		api.Slide:  state.slide,
		api.Empty:  state.empty,
		api.Enemy:  state.enemy,
		api.Friend: state.friend,
		api.Take:   state.take,
		api.Push:   state.push,
		api.Become: state.become,
		api.Need:   state.need,
		api.Lose:   state.lose,
	}
	if step.Op < api.Go || step.Op >= len(deeds) {
		return nil
	}
	return deeds[step.Op](s, step.N)
}

// outcome returns what comes of it when the man is put down in s.
func (s state) outcome() api.Outcome {
	return api.Outcome{Pos: placed(copied(s.pos), s.kind, s.cell), Took: s.took}
}

// isEmpty reports whether the cursor's cell is empty.
func (s state) isEmpty() bool {
	return s.pos.At[s.cell] == 0
}

// owner returns the side of the man on the cursor's cell, or -1.
func (s state) owner() int {
	_, side := game.Man(s.pos.At[s.cell])
	return side
}

// next returns the cell next to the cursor's one in the direction d, or -1.
func (s state) next(d int) int {
	return board.To(s.game.Board, s.pos.Side, d, s.cell)
}

// beside returns the cell next to the cursor's one at which the step looks, or -1.
func (s state) beside(step api.Step) int {
	if step.Op != api.Push || s.isEmpty() {
		return -1
	}
	return s.next(step.N)
}

// onlyIf returns s alone if the condition holds, and no state otherwise.
func (s state) onlyIf(holds bool) []state {
	if !holds {
		return nil
	}
	return []state{s}
}

// at returns s with the cursor on the cell.
func (s state) at(cell int) state {
	s.cell = cell
	return s
}

func (s state) walk(d int) []state {
	to := s.next(d)
	return s.at(to).onlyIf(to >= 0)
}

func (s state) slide(d int) []state {
	var l []state
	for _, to := range board.Line(s.game.Board, s.pos.Side, d, s.cell) {
		s = s.at(to)
		l = append(l, s)
		if !s.isEmpty() {
			break
		}
	}
	return l
}

func (s state) empty(int) []state {
	return s.onlyIf(s.isEmpty())
}

func (s state) enemy(int) []state {
	return s.onlyIf(s.owner() == 1-s.pos.Side)
}

func (s state) friend(int) []state {
	return s.onlyIf(s.owner() == s.pos.Side)
}

func (s state) take(int) []state {
	kind, side := game.Man(s.pos.At[s.cell])
	if side != 1-s.pos.Side {
		return nil
	}
	p := copied(s.pos)
	p.At[s.cell] = 0
	if s.game.Kinds[kind].Keep {
		p.Hand[p.Side][kind]++
	}
	s.pos, s.took = p, true
	return s.onlyIf(p.Hand[p.Side][kind] <= api.MaxHand)
}

func (s state) push(d int) []state {
	to := s.next(d)
	if s.isEmpty() || to < 0 || s.pos.At[to] != 0 {
		return nil
	}
	s.pos = copied(s.pos)
	s.pos.At[to], s.pos.At[s.cell] = s.pos.At[s.cell], 0
	return []state{s}
}

func (s state) become(kind int) []state {
	s.kind = kind
	return []state{s}
}

func (s state) need(right int) []state {
	return s.onlyIf(s.pos.Rights&bit(right) != 0)
}

func (s state) lose(right int) []state {
	s.pos.Rights &^= bit(right)
	return []state{s}
}

// bit returns the bit of a right.
func bit(right int) int {
	// The number is made unsigned since a negative shift, for a game that is not valid, would panic.
	return 1 << uint(right)
}
