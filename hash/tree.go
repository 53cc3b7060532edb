package hash

// part is a part of a list of elements: those with the indices from from up to to - 1.
type part struct{ from, to int }

// others returns, for an index i of n elements, the parts beside those in which the element is, from the least one on. A proof has their roots.
func others(n, i int) []part {
	var l []part
	var follow func(from, to int)
	follow = func(from, to int) {
		if to-from == 1 {
			return
		}
		m := from + first(to-from)
		if i < m {
			follow(from, m)
			l = append(l, part{m, to})
		} else {
			follow(m, to)
			l = append(l, part{from, m})
		}
	}
	follow(0, n)
	return l
}

// first returns the number of elements in the first part of n elements, which are at least 2: the greatest power of 2 that is less.
func first(n int) int {
	m := 1
	// Twice m may be more than an int has room for.
	for m < n-m {
		m *= 2
	}
	return m
}
