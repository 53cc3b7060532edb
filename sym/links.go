package sym

import "slices"

// links has the steps of a board by directions, how many steps of each direction lead to each cell, and a sign of each cell.
//
// The sign of a cell depends on which steps there are from it and to it, from and to the cells at the other ends of these, and so on, by the places of the directions in the list. Cells with different signs cannot go to each other. That others can is likely, but not sure.
type links struct {
	next, into [][]int
	signs      []uint64
}

// linksOf returns the links of the board with these steps.
func linksOf(next [][]int) links {
	l := links{next: next, signs: signs(next)}
	for _, row := range next {
		count := make([]int, len(row))
		for _, to := range row {
			if to >= 0 {
				count[to]++
			}
		}
		l.into = append(l.into, count)
	}
	return l
}

// turned returns the links with the direction dirs[d] in place of each direction d.
func (l links) turned(dirs []int) links {
	var out links
	for _, d := range dirs {
		out.next = append(out.next, l.next[d])
		out.into = append(out.into, l.into[d])
	}
	out.signs = signs(out.next)
	return out
}

// shapes returns a number for each direction, which depends on its steps. Directions with different ones cannot go to each other.
func shapes(next [][]int) []uint64 {
	var all []uint64
	for d := range next {
		var shape uint64
		// In a sum, it makes no difference in which order the cells come.
		for _, sign := range signs(next[d : d+1]) {
			shape += mixed(sign, 0)
		}
		all = append(all, shape)
	}
	return all
}

// signs returns the signs of the cells of the board with these steps.
func signs(next [][]int) []uint64 {
	now := make([]uint64, len(next[0]))
	for kinds := 0; ; {
		n := different(now)
		if n <= kinds {
			return now
		}
		kinds, now = n, refined(next, now)
	}
}

// different returns how many different numbers are in l.
func different(l []uint64) int {
	return len(slices.Compact(slices.Sorted(slices.Values(l))))
}

// refined returns signs that also depend on those of the cells at the other ends of steps.
func refined(next [][]int, now []uint64) []uint64 {
	then := slices.Clone(now)
	for d, row := range next {
		for c, to := range row {
			if to >= 0 {
				then[c] += mixed(now[to], 2*d)
				then[to] += mixed(now[c], 2*d+1)
			}
		}
	}
	for c, sign := range then {
		then[c] = mixed(sign, 2*len(next))
	}
	return then
}

// mixed returns a number that depends on both, and is hardly ever that of others.
func mixed(sign uint64, n int) uint64 {
	sign += uint64(n+1) * 0x9E3779B97F4A7C15
	sign = (sign ^ sign>>30) * 0xBF58476D1CE4E5B9
	sign = (sign ^ sign>>27) * 0x94D049BB133111EB
	return sign ^ sign>>31
}
