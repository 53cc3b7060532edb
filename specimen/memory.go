package specimen

import "slices"

// CheckApart writes to all of the lists. If one of them shares memory with another one, the test fails.
func CheckApart(t Test, lists [][]int) {
	t.Helper()
	for n, l := range lists {
		copy(l, slices.Repeat([]int{n}, len(l)))
	}
	for n, l := range lists {
		if !slices.Equal(l, slices.Repeat([]int{n}, len(l))) {
			t.Fatalf("the list %d has changed: %v", n, l)
		}
	}
}
