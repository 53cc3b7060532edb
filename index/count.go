package index

import "skewer/api"

// counts has, for each content, a number of cells with it.
type counts [1 + 2*api.MaxKinds]int

// fill reports whether the numbers of men are those of as many cells: none is negative, and this is their sum.
func fill(men []int, cells int) bool {
	for _, n := range men {
		if n < 0 || n > cells {
			return false
		}
		// The cells that are left are counted, since a sum could be too great to be counted.
		cells -= n
	}
	return cells == 0
}

// arrangements returns in how many ways contents can be arranged, if so many cells have each of them. If there are more than api.MaxNum ways, it returns some number that is greater, too.
func arrangements(men ...int) int {
	ways, cells := 1, 0
	for _, n := range men {
		for i := range n {
			// With one cell more that has the content, there are so many times as many ways: never fewer, and without a remainder.
			cells++
			ways = ways * cells / (i + 1)
			if ways > api.MaxNum {
				return ways
			}
		}
	}
	return ways
}

// filling returns functions for cells that get these men one after the other, from the first one on; there have to be at most api.MaxNum arrangements of them. The function ways returns in how many ways the cells that are left can be filled if the next one has the content; put gives it this content.
func filling(men []int) (ways func(content int) int, put func(content int)) {
	var left counts
	cells := 0
	for content, n := range men {
		left[content] = n
		cells += n
	}
	all := arrangements(left[:]...)
	// In all ways together, each cell has the content equally often: so the next one has it in the part of all ways that the cells with it are of all cells.
	ways = func(content int) int { return all * left[content] / cells }
	put = func(content int) {
		all = ways(content)
		left[content]--
		cells--
	}
	return ways, put
}
