package solve_test

import (
	"fmt"
	"iter"
	"maps"
	"math"
	"math/big"
	"math/rand/v2"
	"slices"
	"sync"
	"testing"

	"skewer/api"
	"skewer/play"
	"skewer/pos"
	"skewer/solve"
	"skewer/specimen"
)

// sample is a valid game with a closed list.
type sample struct {
	g api.Game
	l []api.Pos
}

// made makes the samples, which are the same ones each time.
var made = sync.OnceValue(func() []sample {
	var all []sample
	for g, l := range specimen.Lists(rand.New(rand.NewPCG(1, 2)).IntN, 1500) {
		all = append(all, sample{g, l})
	}
	return all
})

// samples yields valid games with closed lists of up to so many positions.
func samples(most int) iter.Seq2[api.Game, []api.Pos] {
	return func(yield func(api.Game, []api.Pos) bool) {
		for _, x := range made() {
			if len(x.l) <= most && !yield(x.g, x.l) {
				return
			}
		}
	}
}

// told returns the indices of the positions of a list, by what is told of them.
func told(l []api.Pos) map[string]int {
	index := map[string]int{}
	for i, p := range l {
		index[fmt.Sprint(p)] = i
	}
	return index
}

// toldNext returns the indices of the moves that play.Moves returns.
func toldNext(t *testing.T, g api.Game, l []api.Pos) [][]int {
	t.Helper()
	index := told(l)
	next := make([][]int, len(l))
	for i, p := range l {
		for _, q := range play.Moves(g, p) {
			to, there := index[fmt.Sprint(q)]
			if !there {
				t.Fatalf("%v: %v is not there", g, q)
			}
			next[i] = append(next[i], to)
		}
	}
	return next
}

// toldValues returns what the chapter tells of the values: round by round, from all values that are there before a round.
func toldValues(g api.Game, l []api.Pos, next [][]int) []api.Result {
	v := make([]api.Result, len(l))
	for i, p := range l {
		if out, over := play.Status(g, p); over {
			v[i] = api.Result{Out: out}
		}
	}
	for n, more := 1, true; more; n++ {
		more = false
		before := slices.Clone(v)
		for i := range l {
			if r := toldValue(before, next[i], n); before[i].Out == 0 && r.Out != 0 {
				v[i], more = r, true
			}
		}
	}
	for i := range v {
		if v[i].Out == 0 {
			v[i] = draw
		}
	}
	return v
}

// toldValue returns the value with N = n that a position without a value gets by its moves, or no value.
func toldValue(v []api.Result, moves []int, n int) api.Result {
	if slices.ContainsFunc(moves, func(to int) bool { return v[to] == loss(n-1) }) {
		return win(n)
	}
	greatest := -1
	for _, to := range moves {
		if v[to].Out != api.Win {
			return api.Result{}
		}
		greatest = max(greatest, v[to].N)
	}
	if greatest == n-1 {
		return loss(n)
	}
	return api.Result{}
}

// hasWon reports whether the side has won a position that has this result.
func hasWon(p api.Pos, side, out int) bool {
	return p.Side == side && out == api.Win || p.Side != side && out == api.Loss
}

// toldFinal returns what the chapter tells of final results.
func toldFinal(g api.Game, l []api.Pos, next [][]int, v []api.Result) []int {
	final := make([]int, len(l))
	me := 0
	if g.Endless == api.Loss {
		me = 1
	}
	safe := toldSafe(g, l, next, me)
	for i, p := range l {
		switch {
		case g.Endless == api.Draw || hasWon(p, 1-me, v[i].Out):
			final[i] = v[i].Out
		case safe[i]:
			final[i] = api.Draw
		case p.Side == me:
			final[i] = api.Win
		default:
			final[i] = api.Loss
		}
	}
	return final
}

// toldSafe returns the positions that are safe, if the side wins a play that does not end.
func toldSafe(g api.Game, l []api.Pos, next [][]int, me int) []bool {
	safe := make([]bool, len(l))
	count := func(moves []int) int {
		n := 0
		for _, to := range moves {
			if safe[to] {
				n++
			}
		}
		return n
	}
	for more := true; more; {
		more = false
		for i, p := range l {
			out, over := play.Status(g, p)
			n := count(next[i])
			if is := over && !hasWon(p, me, out) || !over && p.Side != me && n > 0 || !over && p.Side == me && n == len(next[i]); is && !safe[i] {
				safe[i], more = true, true
			}
		}
	}
	return safe
}

// toldRight reports whether an entry is locally right, as the chapter tells it.
func toldRight(g api.Game, p api.Pos, moves []int, v []api.Result, i int) bool {
	if out, over := play.Status(g, p); over {
		return v[i] == api.Result{Out: out}
	}
	var losses, wins []int
	for _, to := range moves {
		if v[to].Out == api.Loss {
			losses = append(losses, v[to].N)
		}
		if v[to].Out == api.Win {
			wins = append(wins, v[to].N)
		}
	}
	// The numbers may be the farthest ones.
	more := func(n, m int) bool {
		return new(big.Int).Sub(big.NewInt(int64(n)), big.NewInt(int64(m))).Cmp(big.NewInt(1)) == 0
	}
	if len(losses) > 0 {
		return v[i].Out == api.Win && more(v[i].N, slices.Min(losses))
	}
	if len(wins) == len(moves) {
		return v[i].Out == api.Loss && more(v[i].N, slices.Max(wins))
	}
	return v[i] == draw
}

// P7.1, P7.3: moves, values and final results are those that the chapter tells of.
func TestTold(t *testing.T) {
	outs, finals, longest := map[int]int{}, map[string]int{}, 0
	for g, l := range samples(800) {
		next := toldNext(t, g, l)
		if n, e := solve.Next(g, l); e != api.OK || !slices.EqualFunc(n, next, slices.Equal) {
			t.Fatalf("%v, %v: Next %v, %v, not %v", g, l, n, e, next)
		}
		want := toldValues(g, l, next)
		v := solved(t, g, l)
		if !slices.Equal(v, want) {
			t.Fatalf("%v, %v: values %v, not %v", g, l, v, want)
		}
		for g.Endless = range api.Loss + 1 {
			// The number 0 is no result.
			if g.Endless == 0 {
				continue
			}
			want := toldFinal(g, l, next, v)
			if f, e := solve.Final(g, l); e != api.OK || !slices.Equal(f, want) {
				t.Fatalf("%v, %v: final results %v, %v, not %v", g, l, f, e, want)
			}
			for i, r := range v {
				finals[fmt.Sprint(g.Endless, r.Out, want[i])]++
			}
		}
		for _, r := range v {
			outs[r.Out]++
			longest = max(longest, r.N)
		}
	}
	if min(outs[api.Win], outs[api.Draw], outs[api.Loss]) < 1000 || longest < 12 || len(finals) != 13 {
		t.Errorf("values %v, up to %d moves, final results %v", outs, longest, finals)
	}
}

// P7.2: a list has exactly what can be reached, each position once and in order; what is reached from one of them is a part of it.
func TestReached(t *testing.T) {
	r := rand.New(rand.NewPCG(3, 4))
	refused := 0
	pick := r.IntN
	for range 600 {
		g := specimen.Game(pick)
		p := specimen.Pos(pick, g)
		all := toldAll(g, p)
		l, e := solve.All(g, p)
		if len(all) > api.MaxNodes {
			refused++
			if e != api.ErrBig || len(l) != 0 {
				t.Fatalf("%v, %v: %d positions, %v", g, p, len(l), e)
			}
			continue
		}
		set := map[string]bool{}
		for i, q := range l {
			set[fmt.Sprint(q)] = true
			if !pos.Valid(g, q) || i > 0 && pos.Compare(l[i-1], q) != -1 {
				t.Fatalf("%v, %v: %v", g, p, l)
			}
		}
		if e != api.OK || !maps.Equal(set, all) {
			t.Fatalf("%v, %v: %v, %v, not %v", g, p, l, e, all)
		}
		if _, e := solve.Next(g, l); e != api.OK {
			t.Fatalf("%v, %v: %v", g, p, e)
		}
		part, e := solve.All(g, l[pick(len(l))])
		if e != api.OK || slices.ContainsFunc(part, func(q api.Pos) bool { return pos.Find(l, q) < 0 }) {
			t.Fatalf("%v, %v: %v, %v, not in %v", g, p, part, e, l)
		}
	}
	if refused == 0 {
		t.Error("no list is too long")
	}
}

// toldAll returns the set of what can be reached from p, or a part of it that is too large for a list.
func toldAll(g api.Game, p api.Pos) map[string]bool {
	set := map[string]bool{fmt.Sprint(p): true}
	layer := []api.Pos{p}
	for len(layer) > 0 && len(set) <= api.MaxNodes {
		var after []api.Pos
		for _, q := range layer {
			for _, m := range play.Moves(g, q) {
				if s := fmt.Sprint(m); !set[s] {
					set[s] = true
					after = append(after, m)
				}
			}
		}
		layer = after
	}
	return set
}

// P7.4: the values are locally right, and the first entry that is not is found, whatever the entries are.
func TestRight(t *testing.T) {
	r := rand.New(rand.NewPCG(5, 6))
	found := 0
	for g, l := range samples(60) {
		next := toldNext(t, g, l)
		v := solved(t, g, l)
		if k, e := solve.Right(g, l, v); e != api.OK || k != -1 {
			t.Fatalf("%v, %v: the values %v are not right at %d, %v", g, l, v, k, e)
		}
		for range 10 {
			w := slices.Clone(v)
			for range 1 + r.IntN(3) {
				w[r.IntN(len(w))] = anyResult(r)
			}
			want := -1
			for i, p := range l {
				if !toldRight(g, p, next[i], w, i) {
					want = i
					break
				}
			}
			if k, e := solve.Right(g, l, w); e != api.OK || k != want || (k == -1) != slices.Equal(v, w) {
				t.Fatalf("%v, %v, %v: %d, %v, not %d", g, l, w, k, e, want)
			}
			// The first entry that is not right need not be the first one that is not the value.
			if want >= 0 && w[want] == v[want] {
				found++
			}
		}
	}
	if found < 500 {
		t.Errorf("only %d are beside a wrong one", found)
	}
}

// anyResult returns a result with a small number, or one of those that need not be results.
func anyResult(r *rand.Rand) api.Result {
	if r.IntN(4) > 0 {
		return api.Result{Out: api.Win + r.IntN(3), N: r.IntN(5)}
	}
	edges := specimen.Edges()
	return api.Result{Out: r.IntN(5), N: edges[r.IntN(len(edges))]}
}

// P7.4: of all results with small numbers, only the values are locally right everywhere.
func TestOnlyValues(t *testing.T) {
	tried := 0
	for g, l := range samples(3) {
		if tried++; len(l) < 2 || tried > 150 {
			continue
		}
		v := solved(t, g, l)
		for w := range results(len(l)) {
			if k, e := solve.Right(g, l, w); e != api.OK || (k == -1) != slices.Equal(v, w) {
				t.Fatalf("%v, %v, %v: %d, %v, but the values are %v", g, l, w, k, e, v)
			}
		}
	}
}

// results yields all lists of n results with numbers up to 3.
func results(n int) iter.Seq[[]api.Result] {
	return func(yield func([]api.Result) bool) {
		one := [...]api.Result{win(0), win(1), win(2), win(3), draw, {Out: api.Draw, N: 1}, loss(0), loss(1), loss(2), loss(3)}
		for m := range int(math.Pow(float64(len(one)), float64(n))) {
			l := make([]api.Result, n)
			for i := range l {
				l[i] = one[m%len(one)]
				m /= len(one)
			}
			if !yield(l) {
				return
			}
		}
	}
}

// P7.1, P7.5, P7.6: the best move is the first one with the value that is wanted, and there is none only at an end.
func TestBest(t *testing.T) {
	for g, l := range samples(60) {
		next := toldNext(t, g, l)
		v := solved(t, g, l)
		for i := range l {
			wanted := func(to int) bool {
				switch v[i].Out {
				case api.Win:
					return v[to] == loss(v[i].N-1)
				case api.Loss:
					return v[to] == win(v[i].N-1)
				}
				return v[to] == draw
			}
			k, e := solve.Best(g, l, v, i)
			if len(next[i]) == 0 {
				if k != 0 || e != api.ErrNone {
					t.Fatalf("%v, %v: the best move from %d is %d, %v", g, l, i, k, e)
				}
				continue
			}
			first := slices.IndexFunc(next[i], wanted)
			if e != api.OK || first < 0 || k != next[i][first] {
				t.Fatalf("%v, %v: the best move from %d is %d, %v", g, l, i, k, e)
			}
		}
	}
}

// best returns the best move from each position that is not over, and -1 for the others.
func best(t *testing.T, g api.Game, l []api.Pos, v []api.Result) []int {
	t.Helper()
	var all []int
	for i := range l {
		k, e := solve.Best(g, l, v, i)
		if e != api.OK {
			k = -1
		}
		all = append(all, k)
	}
	return all
}

// P7.5: by best moves, a side wins within N moves, whatever the other side does; if both play best, in exactly N.
func TestWinning(t *testing.T) {
	won, long := 0, 0
	for g, l := range samples(60) {
		next := toldNext(t, g, l)
		v := solved(t, g, l)
		moves := best(t, g, l, v)
		known := map[[2]int]int{}
		// most returns the greatest number of moves of a play from i in which the winner plays best, or more than limit.
		var most func(i, limit int) int
		most = func(i, limit int) int {
			n, there := known[[2]int{i, limit}]
			if there || moves[i] < 0 || limit < 0 {
				return n
			}
			replies := next[i]
			if v[i].Out == api.Win {
				replies = moves[i : i+1]
			}
			for _, to := range replies {
				if v[to].Out != api.Win+api.Loss-v[i].Out {
					t.Fatalf("%v, %v: %v at %d, and then %v at %d", g, l, v[i], i, v[to], to)
				}
				n = max(n, 1+most(to, limit-1))
			}
			known[[2]int{i, limit}] = n
			return n
		}
		for i, r := range v {
			if r.Out == api.Draw {
				continue
			}
			if n := most(i, r.N); n > r.N {
				t.Fatalf("%v, %v: %d moves from %d, not %d", g, l, n, i, r.N)
			}
			end, n := i, 0
			for ; moves[end] >= 0 && n <= r.N; n++ {
				end = moves[end]
			}
			side := l[i].Side
			if r.Out == api.Loss {
				side = 1 - side
			}
			if n != r.N || moves[end] >= 0 || !hasWon(l[end], side, v[end].Out) {
				t.Fatalf("%v, %v: from %d, play ends after %d moves in %d", g, l, i, n, end)
			}
			if won++; n > 5 {
				long++
			}
		}
	}
	if won < 2000 || long < 15 {
		t.Errorf("only %d are won, %d of them late", won, long)
	}
}

// P7.6: from a position with the value Draw, best moves of both sides lead to Draw only.
func TestDrawing(t *testing.T) {
	count := 0
	for g, l := range samples(60) {
		v := solved(t, g, l)
		moves := best(t, g, l, v)
		for i, r := range v {
			if r.Out != api.Draw || moves[i] < 0 {
				continue
			}
			count++
			for n := 0; n <= len(l) && moves[i] >= 0; n++ {
				if i = moves[i]; v[i] != draw {
					t.Fatalf("%v, %v: best moves lead to %v at %d", g, l, v[i], i)
				}
			}
		}
	}
	if count < 1000 {
		t.Errorf("only %d are drawn", count)
	}
}

// P7.7: with final results, a position that is not over is won exactly if a move from it is lost, and lost exactly if all are won; what the values decide remains.
func TestEndless(t *testing.T) {
	changed := 0
	for g, l := range samples(800) {
		next := toldNext(t, g, l)
		v := solved(t, g, l)
		for _, g.Endless = range []int{api.Win, api.Draw, api.Loss} {
			f, e := solve.Final(g, l)
			if e != api.OK || len(f) != len(l) {
				t.Fatalf("%v, %v: %v, %v", g, l, f, e)
			}
			for i, moves := range next {
				lost := slices.ContainsFunc(moves, func(to int) bool { return f[to] == api.Loss })
				open := slices.ContainsFunc(moves, func(to int) bool { return f[to] != api.Win })
				if len(moves) > 0 && ((f[i] == api.Win) != lost || (f[i] == api.Loss) == open) {
					t.Fatalf("%v, %v: %d is %d, its moves %v are %v", g, l, i, f[i], moves, f)
				}
				if (len(moves) == 0 || v[i].Out != api.Draw) && f[i] != v[i].Out || f[i] < api.Win || f[i] > api.Loss {
					t.Fatalf("%v, %v: %d is %d, not %v", g, l, i, f[i], v[i])
				}
				// Nobody wins a play without an end but the side that is favored by it.
				if f[i] != v[i].Out {
					changed++
					if g.Endless == api.Draw || (f[i] == g.Endless) != (l[i].Side == 0) {
						t.Fatalf("%v, %v: %d is %d, not %v", g, l, i, f[i], v[i])
					}
				}
			}
		}
	}
	if changed < 2000 {
		t.Errorf("only %d are not as the values are", changed)
	}
}

// P7.8: a list without one of its positions is refused exactly if a move leads to it from another one; one that has a position twice, or one that is not valid, always.
func TestClosed(t *testing.T) {
	r := rand.New(rand.NewPCG(7, 8))
	refused, closed := 0, 0
	for g, l := range samples(30) {
		next := toldNext(t, g, l)
		for range 3 {
			i := r.IntN(len(l))
			less := slices.Delete(slices.Clone(l), i, i+1)
			needed := false
			for from, moves := range next {
				needed = needed || from != i && slices.Contains(moves, i)
			}
			if needed {
				checkRefused(t, g, less)
				refused++
			} else if n, e := solve.Next(g, less); e != api.OK || len(n) != len(less) {
				t.Fatalf("%v, %v: %v", g, less, e)
			} else {
				closed++
			}
			checkRefused(t, g, slices.Insert(slices.Clone(l), i, l[i]))
			if p := specimen.OtherPos(r.IntN, l[i]); !pos.Valid(g, p) {
				checkRefused(t, g, pos.Sort(append(less, p)))
				checkRefused(t, g, pos.Sort(append(slices.Clone(l), p)))
			}
			if j := r.IntN(len(l)); j != i {
				swapped := slices.Clone(l)
				swapped[i], swapped[j] = l[j], l[i]
				checkRefused(t, g, swapped)
			}
		}
	}
	if min(refused, closed) < 500 {
		t.Errorf("only %d are refused, %d are not", refused, closed)
	}
}
