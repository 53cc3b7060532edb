package game

import (
	"strconv"
	"strings"

	"skewer/api"
	"skewer/prog"
)

// results has the words of results; 0 is no result.
var results = [...]string{api.Win: "win", api.Draw: "draw", api.Loss: "loss"}

// written returns the text of g, which has to be valid.
func written(g api.Game) string {
	var text strings.Builder
	put := func(words ...string) {
		text.WriteString(strings.Join(words, " "))
		text.WriteByte('\n')
	}
	putBoard(put, g.Board)
	putKinds(put, g.Kinds)
	put("rights", strconv.Itoa(g.Rights))
	if g.Must {
		put("must")
	}
	for _, c := range g.Clauses {
		putClause(put, g, c)
	}
	put("blocked", results[g.Blocked])
	put("endless", results[g.Endless])
	return text.String()
}

// putBoard puts the lines of b.
func putBoard(put func(...string), b api.Board) {
	put("board", strconv.Itoa(b.Cells), strconv.Itoa(len(b.Next)))
	for _, row := range b.Next {
		put(line("dir", row)...)
	}
	put(line("turn", b.Turn)...)
}

// line returns the words of a line of numbers.
func line(first string, numbers []int) []string {
	words := []string{first}
	for _, n := range numbers {
		words = append(words, strconv.Itoa(n))
	}
	return words
}

// putKinds puts the lines of kinds and of their programs.
func putKinds(put func(...string), kinds []api.Kind) {
	for _, k := range kinds {
		if k.Keep {
			put("kind", k.Name, "keep")
		} else {
			put("kind", k.Name)
		}
		for _, p := range k.Progs {
			put("prog", prog.Print(p))
		}
	}
}

// putClause puts the line of a clause of g.
func putClause(put func(...string), g api.Game, c api.Clause) {
	name, n, then := g.Kinds[c.Kind].Name, strconv.Itoa(c.N), results[c.Then]
	switch c.If {
	case api.Lacks:
		put("lacks", name, then)
	case api.Holds:
		put("holds", name, n, then)
	case api.Few:
		put("few", n, then)
	}
}
