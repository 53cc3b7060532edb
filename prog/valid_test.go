package prog_test

import (
	"iter"
	"math"
	"math/rand/v2"
	"reflect"
	"slices"
	"testing"

	"skewer/api"
	"skewer/prog"
)

// What the N of a step names, as the table of the chapter says.
const (
	noOp = iota
	zero
	directions
	kinds
	rights
)

// named returns what the N of the steps with this Op names.
func named(op int) int {
	switch op {
	case api.Go, api.Slide, api.Push:
		return directions
	case api.Empty, api.Enemy, api.Friend, api.Take:
		return zero
	case api.Become:
		return kinds
	case api.Need, api.Lose:
		return rights
	}
	return noOp
}

// validAlone reports whether s is a step, and its N in its range, as the table of the chapter says.
func validAlone(s api.Step, numbers [3]int) bool {
	switch named(s.Op) {
	case zero:
		return s.N == 0
	case directions:
		return s.N >= 0 && s.N < numbers[0]
	case kinds:
		return s.N >= 0 && s.N < numbers[1]
	case rights:
		return s.N >= 0 && s.N < numbers[2]
	}
	return false
}

// counted reports whether p has so many steps of each kind as it may have.
func counted(p api.Prog) bool {
	count := map[int]int{}
	for _, s := range p {
		count[s.Op]++
	}
	return len(p) >= 1 && len(p) <= 8 && count[api.Take] <= 2 && count[api.Push] <= 1 && count[api.Become] <= 1
}

// programs yields programs of up to 10 steps, of which many are valid, and others nearly so. They are the same ones each time.
func programs() iter.Seq[api.Prog] {
	return func(yield func(api.Prog) bool) {
		r := rand.New(rand.NewPCG(1, 2))
		for range 20000 {
			p := make(api.Prog, r.IntN(11))
			few, wrong := r.IntN(2) == 0, r.IntN(4) == 0
			for i := range p {
				p[i] = anyStep(r, wrong)
				for few && (p[i].Op == api.Take || p[i].Op == api.Push || p[i].Op == api.Become) {
					p[i] = anyStep(r, wrong)
				}
			}
			if !yield(p) {
				return
			}
		}
	}
}

// anyStep returns a step that is valid for the greatest numbers, or, if wrong, may not be.
func anyStep(r *rand.Rand, wrong bool) api.Step {
	if wrong && r.IntN(4) == 0 {
		return api.Step{Op: r.IntN(14) - 1, N: r.IntN(14) - 2}
	}
	s := api.Step{Op: 1 + r.IntN(10)}
	s.N = r.IntN([]int{1, 1, api.MaxDirs, api.MaxKinds, api.MaxRights}[named(s.Op)])
	return s
}

// edges has numbers around those that matter, and the farthest ones.
var edges = []int{math.MinInt, math.MinInt32, -2, -1, 0, 1, 2, 3, 4, 5, 6, 7, 8, 9, 10, 11, 12, 255, 256, math.MaxInt32, math.MaxInt}

// P2.5, P2.6: each step by itself, for numbers of all sizes.
func TestStepAlone(t *testing.T) {
	for _, op := range edges {
		for _, n := range edges {
			p := api.Prog{{Op: op, N: n}}
			for _, a := range edges {
				for _, numbers := range [][3]int{{a, 0, 0}, {0, a, 0}, {0, 0, a}, {a, a, a}, {8, 6, 4}} {
					want := validAlone(p[0], numbers)
					if prog.Valid(p, numbers[0], numbers[1], numbers[2]) != want {
						t.Fatalf("%v for %v: not %v", p, numbers, want)
					}
				}
			}
		}
	}
}

// P2.6: a program is valid exactly if each step is, by itself, and the counts are.
func TestSteps(t *testing.T) {
	valid, not := 0, 0
	for p := range programs() {
		for _, numbers := range [][3]int{{8, 6, 4}, {4, 3, 2}, {8, 1, 0}} {
			alone := !slices.ContainsFunc(p, func(s api.Step) bool {
				return !prog.Valid(api.Prog{s}, numbers[0], numbers[1], numbers[2])
			})
			got := prog.Valid(p, numbers[0], numbers[1], numbers[2])
			if got != (alone && counted(p)) {
				t.Fatalf("%v for %v: %v", p, numbers, got)
			}
			if got {
				valid++
			} else {
				not++
			}
		}
	}
	if valid < 1000 || not < 1000 {
		t.Error("too few programs:", valid, not)
	}
}

// P2.5: the counts of steps, for all programs of up to 6 steps of some kinds.
func TestCounts(t *testing.T) {
	var add func(p api.Prog)
	add = func(p api.Prog) {
		if got := prog.Valid(p, 1, 1, 1); got != counted(p) {
			t.Errorf("%v: %v", p, got)
		}
		if len(p) == 6 {
			return
		}
		for _, op := range []int{api.Take, api.Push, api.Become, api.Lose} {
			add(append(slices.Clone(p), api.Step{Op: op}))
		}
	}
	add(nil)
}

// P2.5: programs are valid up to their limits, and no further.
func TestLimits(t *testing.T) {
	for op := api.Go; op <= api.Lose; op++ {
		most := 8
		switch op {
		case api.Take:
			most = 2
		case api.Push, api.Become:
			most = 1
		}
		for n := range 70 {
			p := slices.Repeat(api.Prog{{Op: op}}, n)
			if got := prog.Valid(p, 8, 6, 4); got != (n >= 1 && n <= most) {
				t.Errorf("%d times the Op %d: %v", n, op, got)
			}
		}
	}
	full := api.Prog{{Op: api.Take}, {Op: api.Slide, N: 7}, {Op: api.Take}, {Op: api.Push, N: 7}, {Op: api.Become, N: 5}, {Op: api.Need, N: 3}, {Op: api.Lose, N: 3}, {Op: api.Go, N: 7}}
	if !prog.Valid(full, 8, 6, 4) || prog.Valid(full, 7, 6, 4) || prog.Valid(full, 8, 5, 4) || prog.Valid(full, 8, 6, 3) {
		t.Error("numbers of directions, kinds and rights")
	}
	if prog.Valid(append(full, api.Step{Op: api.Empty}), 8, 6, 4) {
		t.Error("9 steps")
	}
	// Without directions, kinds and rights, there are still steps without numbers.
	if p := (api.Prog{{Op: api.Empty}, {Op: api.Enemy}, {Op: api.Friend}, {Op: api.Take}}); !prog.Valid(p, 0, 0, 0) || !prog.Valid(p, math.MinInt, -1, -1) {
		t.Error("steps without numbers")
	}
}

// P2.4: what is valid is valid with more directions, kinds and rights.
func TestMore(t *testing.T) {
	r := rand.New(rand.NewPCG(7, 8))
	for p := range programs() {
		n := [3]int{r.IntN(9), r.IntN(7), r.IntN(5)}
		if !prog.Valid(p, n[0], n[1], n[2]) {
			n = [3]int{8, 6, 4}
		}
		if !prog.Valid(p, n[0], n[1], n[2]) {
			continue
		}
		for _, m := range [][3]int{{1, 0, 0}, {0, 1, 0}, {0, 0, 1}, {3, 2, 1}, {1000, 1000, 1000}, {math.MaxInt - 8, math.MaxInt - 8, math.MaxInt - 8}} {
			if !prog.Valid(p, n[0]+m[0], n[1]+m[1], n[2]+m[2]) {
				t.Fatalf("%v for %v and %v more", p, n, m)
			}
		}
	}
}

// all calls all functions with p and returns their results.
func all(p api.Prog) []any {
	out := []any{prog.Takes(p), prog.Dirs(p), prog.Print(p)}
	for _, n := range []int{math.MinInt, -1, 0, 1, 6, 8, math.MaxInt} {
		out = append(out, prog.Valid(p, n, 6, 4), prog.Valid(p, 8, n, 4), prog.Valid(p, 8, 6, n))
	}
	for _, to := range [][]int{nil, {0}, {3, -9, 99}, {7, 6, 5, 4, 3, 2, 1, 0}} {
		out = append(out, prog.Turned(p, to))
	}
	return out
}

// P1, P2: no program makes a function panic, or is modified, and the results are the same ones each time.
func TestAnyProgram(t *testing.T) {
	check := func(p api.Prog) {
		before := slices.Clone(p)
		first := all(p)
		if !slices.Equal(p, before) {
			t.Fatal("modified:", before)
		}
		if !reflect.DeepEqual(all(before), first) {
			t.Fatal("other results:", p)
		}
	}
	for p := range programs() {
		check(p)
	}
	for _, op := range edges {
		for _, n := range edges {
			check(api.Prog{{Op: op, N: n}, {Op: api.Go, N: n}, {Op: op}})
		}
	}
	check(slices.Repeat(api.Prog{{Op: api.Take}}, 1000))
}

// P2: a result is memory of its own: what is done with it changes neither an argument nor another result.
func TestMemory(t *testing.T) {
	p, to := mustParse(t, "go1 slide0 take"), []int{0, 1}
	before := slices.Clone(p)
	q := prog.Turned(p, to)
	if !slices.Equal(q, p) {
		t.Fatal("turned by nothing:", q)
	}
	for i := range q {
		q[i] = api.Step{Op: 99, N: 99}
	}
	for _, d := range [][]int{prog.Dirs(p), prog.Dirs(prog.Turned(p, to))} {
		if !slices.Equal(d, []int{0, 1}) {
			t.Fatal("Dirs:", d)
		}
		d[0] = 99
	}
	if !slices.Equal(p, before) || !slices.Equal(to, []int{0, 1}) || !slices.Equal(mustParse(t, "go1 slide0 take"), before) {
		t.Error("shared memory")
	}
}
