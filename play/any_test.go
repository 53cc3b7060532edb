package play_test

import (
	"fmt"
	"math/rand/v2"
	"reflect"
	"testing"

	"skewer/api"
	"skewer/play"
	"skewer/specimen"
)

// all calls the functions and returns their results.
func all(g api.Game, p, q api.Pos, picks []int) []any {
	out, over := play.Status(g, p)
	return []any{out, over, play.Moves(g, p), play.Legal(g, p, q), play.Walk(g, p, picks)}
}

// P1, P2: no game and no position makes a function panic, or is modified, and the results are the same ones each time.
func TestAnything(t *testing.T) {
	pick := rand.New(rand.NewPCG(11, 12)).IntN
	picks := specimen.Edges()[:8]
	moved := 0
	for g, p := range samples() {
		q := specimen.Pos(pick, g)
		if pick(4) > 0 {
			g = specimen.OtherGame(pick, g)
		}
		if pick(3) == 0 {
			p = specimen.OtherPos(pick, p)
		}
		before := fmt.Sprint(g, p, q, picks)
		first := all(g, p, q, picks)
		if fmt.Sprint(g, p, q, picks) != before {
			t.Fatalf("%v, %v, %v, %v, not %s", g, p, q, picks, before)
		}
		if !reflect.DeepEqual(all(g, p, q, picks), first) {
			t.Fatalf("%v, %v: other results", g, p)
		}
		if len(first[2].([]api.Pos)) > 0 {
			moved++
		}
	}
	if moved < 3000 {
		t.Errorf("only %d have moves", moved)
	}
}

// P1: with a game that is not valid, and has very much of everything, the functions come to an end.
func TestGreatGames(t *testing.T) {
	g, p := specimen.Great()
	picks := specimen.Edges()[:4]
	all(g, p, p, picks)
	g.Clauses = nil
	if l := all(g, p, p, picks)[2].([]api.Pos); len(l) == 0 {
		t.Error("no man is tried")
	}
	p.Side = -1
	all(g, p, p, picks)
}
