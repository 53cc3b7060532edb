package specimen

import (
	"strings"

	"skewer/api"
	"skewer/pos"
)

// Test is what is used of a test, whose package the program does not import.
type Test interface {
	Helper()
	Fatalf(format string, args ...any)
}

// Parsed returns the position of g with the text s. If there is none, the test fails.
func Parsed(t Test, g api.Game, s string) api.Pos {
	t.Helper()
	p, e := pos.Parse(g, s)
	if e != api.OK {
		t.Fatalf("%q: %v", s, e)
	}
	return p
}

// Texts returns the texts of positions, with spaces between them.
func Texts(g api.Game, l []api.Pos) string {
	var all []string
	for _, p := range l {
		all = append(all, pos.Print(g, p))
	}
	return strings.Join(all, " ")
}

// OutcomeTexts returns the texts of the positions of outcomes, with a sign x behind those with a Take, and spaces between them.
func OutcomeTexts(g api.Game, l []api.Outcome) string {
	var all []string
	for _, o := range l {
		s := pos.Print(g, o.Pos)
		if o.Took {
			s += "x"
		}
		all = append(all, s)
	}
	return strings.Join(all, " ")
}
