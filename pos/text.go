package pos

import (
	"strconv"
	"strings"

	"skewer/api"
)

// signs are the signs of the numbers from 0 on, a byte each.
type signs string

const (
	contents signs = ".AaBbCcDdEeFf"
	digits   signs = "012345678"
)

// between is the sign between two parts of a text.
const between = "/"

// mostSigns is how many signs the text of a position can have: those of its cells, hands, rights (up to 15) and side, and those between them.
const mostSigns = api.MaxCells + 2*api.MaxKinds + len("15") + len("1") + 4*len(between)

// sign returns the sign of n, or an empty text if there is none.
func (s signs) sign(n int) string {
	if n < 0 || n >= len(s) {
		return ""
	}
	return string(s[n : n+1])
}

// number returns the number with this sign, or -1.
func (s signs) number(sign rune) int {
	return strings.IndexRune(string(s), sign)
}

// written returns the text of p. What is outside of its range has no sign, or some number.
func written(p api.Pos) string {
	return strings.Join([]string{
		signed(p.At, contents.sign),
		signed(p.Hand[0], digits.sign),
		signed(p.Hand[1], digits.sign),
		strconv.Itoa(p.Rights),
		strconv.Itoa(p.Side),
	}, between)
}

// signed returns the signs of the numbers of l.
func signed(l []int, sign func(int) string) string {
	var text strings.Builder
	for _, n := range l {
		text.WriteString(sign(n))
	}
	return text.String()
}

// read returns the position with the text s, if there is one, and otherwise any position.
func read(s string) api.Pos {
	// What is too long is not even divided.
	if len(s) > mostSigns {
		return api.Pos{}
	}
	parts := strings.Split(s, between)
	if len(parts) != 5 {
		return api.Pos{}
	}
	// What is no number, or has other digits than its own, gives one that is written otherwise.
	rights, _ := strconv.Atoi(parts[3])
	side, _ := strconv.Atoi(parts[4])
	return api.Pos{
		At:     numbers(parts[0], contents.number),
		Hand:   [2][]int{numbers(parts[1], digits.number), numbers(parts[2], digits.number)},
		Rights: rights,
		Side:   side,
	}
}

// numbers returns the numbers with the signs of text.
func numbers(text string, number func(rune) int) []int {
	var l []int
	for _, sign := range text {
		l = append(l, number(sign))
	}
	return l
}
