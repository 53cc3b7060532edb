package game

import (
	"strconv"
	"strings"

	"skewer/api"
	"skewer/prog"
)

const (
	// mostLines is how many lines the text of a game can have: those of the board, of the kinds with their programs, of rights and must, of the clauses, and of the results.
	mostLines = 1 + api.MaxDirs + 1 + api.MaxKinds*(1+api.MaxProgs) + 2 + api.MaxClauses + 2
	// mostWords is how many words a line can have: those of a direction.
	mostWords = 1 + api.MaxCells
)

// reader reads the words of lines into the game that it embeds.
type reader struct {
	api.Game
	words []string // what has not been read of the line
}

// read returns the game with the text s, if there is one, and otherwise any game: it takes what it can from each line, in whatever order they are.
func read(s string) api.Game {
	r := &reader{}
	lines := r.lines()
	// Where there is more than a game can have, the rest stays in one piece, however long s is.
	for _, line := range strings.SplitN(s, "\n", mostLines+1) {
		r.words = strings.SplitN(line, " ", mostWords+1)
		if take, ok := lines[r.next()]; ok {
			take()
		}
	}
	return r.Game
}

// lines returns the functions that read the lines, by their first words.
func (r *reader) lines() map[string]func() {
	return map[string]func(){
		"board":   func() { r.Board.Cells = r.number() },
		"dir":     func() { r.Board.Next = append(r.Board.Next, r.numbers()) },
		"turn":    func() { r.Board.Turn = r.numbers() },
		"kind":    func() { r.Kinds = append(r.Kinds, api.Kind{Name: r.next(), Keep: r.next() == "keep"}) },
		"prog":    func() { r.addProg(strings.Join(r.words, " ")) },
		"rights":  func() { r.Rights = r.number() },
		"must":    func() { r.Must = true },
		"lacks":   func() { r.addClause(api.Clause{If: api.Lacks, Kind: r.kind(), Then: r.result()}) },
		"holds":   func() { r.addClause(api.Clause{If: api.Holds, Kind: r.kind(), N: r.number(), Then: r.result()}) },
		"few":     func() { r.addClause(api.Clause{If: api.Few, N: r.number(), Then: r.result()}) },
		"blocked": func() { r.Blocked = r.result() },
		"endless": func() { r.Endless = r.result() },
	}
}

// next returns the next word, or an empty one if there is none.
func (r *reader) next() string {
	if len(r.words) == 0 {
		return ""
	}
	word := r.words[0]
	r.words = r.words[1:]
	return word
}

// number returns the number that the next word is.
func (r *reader) number() int {
	// What is no number, or has other digits than its own, gives one that is written otherwise.
	n, _ := strconv.Atoi(r.next())
	return n
}

// numbers returns the numbers that the other words are.
func (r *reader) numbers() []int {
	var l []int
	for len(r.words) > 0 {
		l = append(l, r.number())
	}
	return l
}

// kind returns the kind whose name the next word is, or -1.
func (r *reader) kind() int {
	return Find(r.Game, r.next())
}

// result returns the result that the next word is, or one that is not valid.
func (r *reader) result() int {
	word := r.next()
	for n, known := range results {
		if known == word {
			return n
		}
	}
	return 0
}

// addProg gives the last kind the program with this text.
func (r *reader) addProg(text string) {
	if len(r.Kinds) == 0 {
		return
	}
	last := &r.Kinds[len(r.Kinds)-1]
	// What is no program gives an empty one, which is not valid.
	p, _ := prog.Parse(text)
	last.Progs = append(last.Progs, p)
}

// addClause makes c the last clause.
func (r *reader) addClause(c api.Clause) {
	r.Clauses = append(r.Clauses, c)
}
