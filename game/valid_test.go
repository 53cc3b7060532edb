package game_test

import (
	"iter"
	"math"
	"math/rand/v2"
	"reflect"
	"slices"
	"testing"

	"skewer/api"
	"skewer/board"
	"skewer/game"
	"skewer/prog"
)

// edges has numbers around those that matter, and the farthest ones.
var edges = []int{math.MinInt, math.MinInt32, -2, -1, 0, 1, 2, 3, 4, 5, 6, 7, 8, 9, 11, 12, 13, 14, 63, 64, 65, 255, 256, math.MaxInt32, math.MaxInt}

// games yields valid games of many sizes, the largest ones first. They are the same ones each time.
func games() iter.Seq[api.Game] {
	return func(yield func(api.Game) bool) {
		r := rand.New(rand.NewPCG(1, 2))
		for n := range 4 {
			if !yield(largest(n)) {
				return
			}
		}
		for range 1500 {
			if !yield(anyGame(r)) {
				return
			}
		}
	}
}

// anyGame returns a valid game.
func anyGame(r *rand.Rand) api.Game {
	g := api.Game{Board: anyBoard(r), Kinds: make([]api.Kind, 1+r.IntN(api.MaxKinds)), Rights: r.IntN(api.MaxRights + 1), Must: r.IntN(2) == 0, Blocked: 1 + r.IntN(3), Endless: 1 + r.IntN(3)}
	for i := range g.Kinds {
		g.Kinds[i].Keep = r.IntN(2) == 0
		for g.Kinds[i].Name == "" || game.Find(g, g.Kinds[i].Name) != i {
			g.Kinds[i].Name = anyName(r)
		}
		for range r.IntN(api.MaxProgs + 1) {
			g.Kinds[i].Progs = append(g.Kinds[i].Progs, anyProg(r, g))
		}
	}
	for range r.IntN(api.MaxClauses + 1) {
		g.Clauses = append(g.Clauses, anyClause(r, g))
	}
	return g
}

// anyBoard returns a valid board.
func anyBoard(r *rand.Rand) api.Board {
	b := api.Board{Cells: 1 + r.IntN(6)}
	if r.IntN(50) == 0 {
		b.Cells = api.MaxCells
	}
	for d := range 1 + r.IntN(api.MaxDirs) {
		row := make([]int, b.Cells)
		for c := range row {
			row[c] = r.IntN(b.Cells+1) - 1
		}
		b.Next, b.Turn = append(b.Next, row), append(b.Turn, d)
	}
	if d := r.IntN(len(b.Turn)); d > 0 {
		b.Turn[d-1], b.Turn[d] = d, d-1
	}
	return b
}

// words are names that stand for something else elsewhere.
var words = []string{"a", "z", "abcdefgh", "board", "dir", "turn", "kind", "prog", "rights", "must", "keep", "lacks", "holds", "few", "blocked", "endless", "win", "draw", "loss", "go", "empty"}

// anyName returns a name of a kind.
func anyName(r *rand.Rand) string {
	if r.IntN(2) == 0 {
		return words[r.IntN(len(words))]
	}
	name := make([]byte, 1+r.IntN(api.MaxName))
	for i := range name {
		name[i] = byte('a' + r.IntN(26))
	}
	return string(name)
}

// anyProg returns a program that is valid for g.
func anyProg(r *rand.Rand, g api.Game) api.Prog {
	p := make(api.Prog, 1+r.IntN(api.MaxSteps))
	for i := range p {
		for !prog.Valid(p[:i+1], len(g.Board.Next), len(g.Kinds), g.Rights) {
			p[i] = api.Step{Op: 1 + r.IntN(10), N: r.IntN(8)}
		}
	}
	return p
}

// anyClause returns a clause that is right for g.
func anyClause(r *rand.Rand, g api.Game) api.Clause {
	c := api.Clause{If: 1 + r.IntN(3), Kind: r.IntN(len(g.Kinds)), Then: 1 + r.IntN(3)}
	switch c.If {
	case api.Holds:
		c.N = r.IntN(g.Board.Cells)
	case api.Few:
		c.Kind, c.N = 0, r.IntN(api.MaxCells+1)
	}
	return c
}

// largest returns a game that has as much of everything as it can, with numbers that are greater by turns.
func largest(turn int) api.Game {
	g := api.Game{Rights: api.MaxRights, Must: true, Blocked: api.Draw, Endless: api.Win}
	g.Board.Cells = api.MaxCells
	for d := range api.MaxDirs {
		g.Board.Next = append(g.Board.Next, slices.Repeat([]int{63 - turn}, api.MaxCells))
		g.Board.Turn = append(g.Board.Turn, 7-d)
	}
	p := api.Prog{{Op: api.Push, N: 7}, {Op: api.Become, N: 5}, {Op: api.Take}, {Op: api.Slide, N: turn}, {Op: api.Take}, {Op: api.Need, N: 3}, {Op: api.Lose, N: turn}, {Op: api.Enemy}}
	for i := range api.MaxKinds {
		k := api.Kind{Name: "abcdefg" + string(rune('a'+i)), Keep: i%2 == turn%2}
		for range api.MaxProgs {
			k.Progs = append(k.Progs, slices.Clone(p))
		}
		g.Kinds = append(g.Kinds, k)
		g.Clauses = append(g.Clauses, api.Clause{If: api.Holds, Kind: i, N: 63, Then: api.Loss})
	}
	return g
}

// copied returns a game that shares no memory with g.
func copied(g api.Game) api.Game {
	g.Board.Next, g.Board.Turn = slices.Clone(g.Board.Next), slices.Clone(g.Board.Turn)
	for d, row := range g.Board.Next {
		g.Board.Next[d] = slices.Clone(row)
	}
	g.Kinds, g.Clauses = slices.Clone(g.Kinds), slices.Clone(g.Clauses)
	for i, k := range g.Kinds {
		g.Kinds[i].Progs = slices.Clone(k.Progs)
		for j, p := range k.Progs {
			g.Kinds[i].Progs[j] = slices.Clone(p)
		}
	}
	return g
}

// P3.5: the games of the tests are valid, each of them within the limits.
func TestValid(t *testing.T) {
	for g := range games() {
		if !game.Valid(g) {
			t.Fatal(g)
		}
	}
	least := api.Game{Board: api.Board{Cells: 1, Next: [][]int{{-1}}, Turn: []int{0}}, Kinds: []api.Kind{{Name: "a"}}, Blocked: 1, Endless: 1}
	if !game.Valid(least) {
		t.Error("the least game")
	}
	if game.Valid(api.Game{}) {
		t.Error("the zero value")
	}
}

// P3.5: numbers of kinds, programs, clauses, rights and results, up to their limits and beyond.
func TestLimits(t *testing.T) {
	for _, n := range edges {
		check := func(what string, want bool, change func(*api.Game)) {
			t.Helper()
			g := example()
			change(&g)
			if got := game.Valid(g); got != want {
				t.Errorf("%s %d: %v", what, n, got)
			}
		}
		check("rights", n >= 0 && n <= 4, func(g *api.Game) { g.Rights = n })
		check("blocked", n >= 1 && n <= 3, func(g *api.Game) { g.Blocked = n })
		check("endless", n >= 1 && n <= 3, func(g *api.Game) { g.Endless = n })
		check("cells", n == 2, func(g *api.Game) { g.Board.Cells = n })
		if n < 0 || n > 300 {
			continue
		}
		check("kinds", n >= 1 && n <= 6, func(g *api.Game) { g.Kinds = named(n) })
		check("programs", n <= 8, func(g *api.Game) { g.Kinds[0].Progs = slices.Repeat([]api.Prog{{{Op: api.Take}}}, n) })
		check("steps", n >= 1 && n <= 8, func(g *api.Game) { g.Kinds[0].Progs[0] = slices.Repeat(api.Prog{{Op: api.Empty}}, n) })
		check("clauses", n <= 6, func(g *api.Game) { g.Clauses = slices.Repeat([]api.Clause{{If: api.Few, Then: api.Win}}, n) })
		check("letters", n >= 1 && n <= 8, func(g *api.Game) { g.Kinds[0].Name = string(slices.Repeat([]byte{'k'}, n)) })
	}
}

// named returns n kinds with different names.
func named(n int) []api.Kind {
	var l []api.Kind
	for i := range n {
		l = append(l, api.Kind{Name: string([]byte{byte('a' + i/26), byte('a' + i%26)})})
	}
	return l
}

// P3.5: a clause is right for a game exactly as the chapter says, by its condition.
func TestClauses(t *testing.T) {
	for _, kinds := range []int{1, 3, 6} {
		g := example()
		g.Kinds = named(kinds)
		for _, cond := range edges {
			for _, kind := range edges {
				for _, n := range edges {
					for _, then := range edges {
						g.Clauses = []api.Clause{{If: api.Few, Then: api.Loss}, {If: cond, Kind: kind, N: n, Then: then}}
						if got := game.Valid(g); got != rightFor(kinds, g.Board.Cells, g.Clauses[1]) {
							t.Fatalf("%d kinds, %v: %v", kinds, g.Clauses[1], got)
						}
					}
				}
			}
		}
	}
	g := largest(0)
	for _, n := range edges {
		g.Clauses[5].N = n
		if got := game.Valid(g); got != (n >= 0 && n < 64) {
			t.Errorf("holds on %d of 64 cells: %v", n, got)
		}
	}
}

// rightFor reports whether c is one of the clauses that a game with these numbers can have.
func rightFor(kinds, cells int, c api.Clause) bool {
	for then := 1; then <= 3; then++ {
		for kind := range kinds {
			if c == (api.Clause{If: 1, Kind: kind, Then: then}) {
				return true
			}
			for n := range cells {
				if c == (api.Clause{If: 2, Kind: kind, N: n, Then: then}) {
					return true
				}
			}
		}
		for n := range 65 {
			if c == (api.Clause{If: 3, N: n, Then: then}) {
				return true
			}
		}
	}
	return false
}

// P3.4, P3.5: names that are none, and names that two kinds have.
func TestNames(t *testing.T) {
	for _, name := range []string{"", "A", "aB", "Z", "a1", "1", "a b", " a", "a ", "a\n", "a-b", "a_", "`", "{", "a\x00", "\xff", "a\xc3", "\u00e4", "a\u00e4", "abcdefghi", "\uff41", "a.", "-"} {
		g := example()
		g.Kinds[0].Name = name
		if game.Valid(g) {
			t.Errorf("%q", name)
		}
	}
	for i := range api.MaxKinds {
		for j := range api.MaxKinds {
			g := largest(0)
			g.Kinds[i].Name = g.Kinds[j].Name
			if game.Valid(g) != (i == j) {
				t.Errorf("the name of %d for %d", j, i)
			}
		}
	}
	// A name that another one begins with, or ends with, is a different one.
	g := example()
	g.Kinds = []api.Kind{{Name: "a"}, {Name: "aa"}, {Name: "ab"}, {Name: "ba"}}
	if !game.Valid(g) {
		t.Error("names that have others in them")
	}
}

// P3.6: no game is valid whose board is not.
func TestBoards(t *testing.T) {
	for name, change := range map[string]func(*api.Board){
		"no cells":       func(b *api.Board) { *b = api.Board{Next: [][]int{{}}, Turn: []int{0}} },
		"no directions":  func(b *api.Board) { b.Next, b.Turn = nil, nil },
		"a short row":    func(b *api.Board) { b.Next[0] = b.Next[0][1:] },
		"a step too far": func(b *api.Board) { b.Next[0][0] = 2 },
		"a step to -2":   func(b *api.Board) { b.Next[0][1] = -2 },
		"a long turn":    func(b *api.Board) { b.Turn = []int{0, 1} },
		"a turn to -1":   func(b *api.Board) { b.Turn[0] = -1 },
		"the zero value": func(b *api.Board) { *b = api.Board{} },
	} {
		g := example()
		change(&g.Board)
		if board.Valid(g.Board) || game.Valid(g) {
			t.Error(name)
		}
	}
	for g := range games() {
		g = copied(g)
		g.Board.Next[len(g.Board.Next)-1][g.Board.Cells-1] = g.Board.Cells
		if game.Valid(g) {
			t.Fatal(g)
		}
	}
}

// P3.6: no game is valid with a program that is not, for its numbers of directions, kinds and rights, wherever it is.
func TestPrograms(t *testing.T) {
	for _, c := range []struct {
		dirs, kinds, rights int
		p                   api.Prog
	}{
		{1, 1, 0, api.Prog{{Op: api.Go, N: 0}}}, {1, 1, 0, api.Prog{{Op: api.Slide, N: 1}}}, {1, 6, 4, api.Prog{{Op: api.Push, N: 1}}}, {2, 1, 0, api.Prog{{Op: api.Push, N: 1}}},
		{8, 1, 4, api.Prog{{Op: api.Become, N: 1}}}, {8, 2, 4, api.Prog{{Op: api.Become, N: 1}}}, {8, 6, 4, api.Prog{{Op: api.Become, N: 5}}}, {8, 5, 4, api.Prog{{Op: api.Become, N: 5}}},
		{8, 6, 0, api.Prog{{Op: api.Need, N: 0}}}, {8, 6, 1, api.Prog{{Op: api.Need, N: 0}}}, {8, 6, 3, api.Prog{{Op: api.Lose, N: 3}}}, {8, 6, 4, api.Prog{{Op: api.Lose, N: 3}}},
		{8, 6, 4, nil}, {8, 6, 4, api.Prog{{}}}, {8, 6, 4, api.Prog{{Op: 11}}}, {8, 6, 4, api.Prog{{Op: api.Take, N: 1}}}, {8, 6, 4, api.Prog{{Op: api.Go, N: -1}}},
		{8, 6, 4, slices.Repeat(api.Prog{{Op: api.Take}}, 3)}, {8, 6, 4, slices.Repeat(api.Prog{{Op: api.Take}}, 2)}, {8, 6, 4, slices.Repeat(api.Prog{{Op: api.Become}}, 2)}, {8, 6, 4, slices.Repeat(api.Prog{{Op: api.Empty}}, 9)},
	} {
		for k := range c.kinds {
			for _, before := range []int{0, 1, 7} {
				g := example()
				g.Board.Next, g.Board.Turn = slices.Repeat(g.Board.Next, c.dirs), slices.Repeat([]int{0}, c.dirs)
				for d := range g.Board.Turn {
					g.Board.Turn[d] = d
				}
				g.Kinds, g.Rights = named(c.kinds), c.rights
				g.Kinds[k].Progs = append(slices.Repeat([]api.Prog{{{Op: api.Empty}}}, before), c.p)
				if got := game.Valid(g); got != prog.Valid(c.p, c.dirs, c.kinds, c.rights) {
					t.Errorf("%v as the program %d of the kind %d: %v", c, before, k, got)
				}
			}
		}
	}
}

// P3.3: contents and men determine each other, and other numbers have none.
func TestContents(t *testing.T) {
	seen := map[[2]int]bool{}
	for code := 1; code <= 12; code++ {
		kind, side := game.Man(code)
		if kind < 0 || kind > 5 || side < 0 || side > 1 || seen[[2]int{kind, side}] || game.Code(kind, side) != code || code != 1+2*kind+side {
			t.Errorf("Man of %d: %d, %d", code, kind, side)
		}
		seen[[2]int{kind, side}] = true
	}
	for _, n := range edges {
		if kind, side := game.Man(n); (n < 1 || n > 12) && (kind != -1 || side != -1) {
			t.Errorf("Man of %d: %d, %d", n, kind, side)
		}
		for _, side := range edges {
			code := game.Code(n, side)
			if n >= 0 && n < 6 && (side == 0 || side == 1) {
				if kind, s := game.Man(code); kind != n || s != side {
					t.Errorf("Code of %d, %d: %d", n, side, code)
				}
			} else if code != 0 {
				t.Errorf("Code of %d, %d: %d", n, side, code)
			}
		}
	}
}

// P3.4: each kind is found by its name, and nothing by others.
func TestFind(t *testing.T) {
	for g := range games() {
		for i, k := range g.Kinds {
			if got := game.Find(g, k.Name); got != i {
				t.Fatalf("%q of %v: %d", k.Name, g.Kinds, got)
			}
		}
		others := append([]string{"", "A", " ", "\n", g.Kinds[0].Name + " ", " " + g.Kinds[0].Name, g.Kinds[0].Name + "x", g.Kinds[0].Name[1:], "\xff"}, words...)
		for _, name := range others {
			want := slices.IndexFunc(g.Kinds, func(k api.Kind) bool { return k.Name == name })
			if got := game.Find(g, name); got != want {
				t.Fatalf("%q of %v: %d", name, g.Kinds, got)
			}
		}
	}
}

// P3.1, P3.4: kinds of games that are not valid are found as well, the first one of several.
func TestFindAnywhere(t *testing.T) {
	g := api.Game{Kinds: []api.Kind{{Name: "b"}, {Name: "A 1"}, {Name: "a"}, {Name: "a"}, {}, {Name: "b"}, {Name: "\xff"}, {Name: "\ufffd"}}}
	for name, want := range map[string]int{"a": 2, "b": 0, "A 1": 1, "": 4, "\xff": 6, "\ufffd": 7, "c": -1, "a ": -1, "\xfe": -1} {
		if got := game.Find(g, name); got != want {
			t.Errorf("%q: %d", name, got)
		}
	}
	for _, name := range []string{"", "a"} {
		if got := game.Find(api.Game{}, name); got != -1 {
			t.Errorf("%q of no kinds: %d", name, got)
		}
	}
}

// all calls the functions with g and returns their results.
func all(g api.Game) []any {
	return []any{game.Valid(g), game.Find(g, "a"), game.Find(g, ""), game.Print(g)}
}

// spoilt yields games of which most are not valid.
func spoilt() iter.Seq[api.Game] {
	return func(yield func(api.Game) bool) {
		r := rand.New(rand.NewPCG(5, 6))
		number := func() int { return edges[r.IntN(len(edges))] }
		for g := range games() {
			g = copied(g)
			spoilPart(r, &g, number)
			if !yield(g) {
				return
			}
		}
		for _, n := range edges {
			if !yield(api.Game{Board: api.Board{Cells: n}, Kinds: make([]api.Kind, 3), Clauses: []api.Clause{{If: n, Kind: n, N: n, Then: n}}, Rights: n, Blocked: n, Endless: n}) {
				return
			}
		}
	}
}

// spoilPart changes something in g.
func spoilPart(r *rand.Rand, g *api.Game, number func() int) {
	kind := &g.Kinds[r.IntN(len(g.Kinds))]
	switch r.IntN(9) {
	case 0:
		g.Board.Cells = number()
	case 1:
		g.Board.Next[0] = append(g.Board.Next[0], number())
	case 2:
		g.Board.Turn[0] = number()
	case 3:
		g.Kinds = nil
	case 4:
		kind.Name = []string{"", "A", "abcdefghi", "a a", "a\nb"}[r.IntN(5)]
	case 5:
		kind.Progs = append(kind.Progs, api.Prog{{Op: number(), N: number()}})
	case 6:
		kind.Progs = append(kind.Progs, nil)
	case 7:
		g.Clauses = append(g.Clauses, api.Clause{If: number(), Kind: number(), N: number(), Then: number()})
	case 8:
		g.Rights, g.Blocked, g.Endless = number(), number(), number()
	}
}

// P1, P2: no game makes a function panic, or is modified, and the results are the same ones each time.
func TestAnyGame(t *testing.T) {
	for _, l := range []iter.Seq[api.Game]{games(), spoilt()} {
		for g := range l {
			before := copied(g)
			first := all(g)
			if !reflect.DeepEqual(g, before) {
				t.Fatal("modified:", before)
			}
			if !reflect.DeepEqual(all(before), first) {
				t.Fatal("other results:", g)
			}
		}
	}
}
