package prog

import (
	"strconv"
	"strings"

	"skewer/api"
)

// What the N of a step can name.
const (
	nothing = iota
	direction
	kind
	right
)

// sign is the word that is written for a step, and what its N names.
type sign struct {
	word  string
	names int
}

// signs has the signs of steps by their Op; 0 is no Op.
var signs = [...]sign{
	api.Go:     {"go", direction},
	api.Slide:  {"slide", direction},
	api.Empty:  {"empty", nothing},
	api.Enemy:  {"enemy", nothing},
	api.Friend: {"friend", nothing},
	api.Take:   {"take", nothing},
	api.Push:   {"push", direction},
	api.Become: {"become", kind},
	api.Need:   {"need", right},
	api.Lose:   {"lose", right},
}

// isOp reports whether steps can have this Op.
func isOp(op int) bool {
	return op > 0 && op < len(signs)
}

// hasDir reports whether the N of s is a direction.
func hasDir(s api.Step) bool {
	return isOp(s.Op) && signs[s.Op].names == direction
}

// written returns what is written for s, whose Op has to be one.
func written(s api.Step) string {
	word := signs[s.Op].word
	if signs[s.Op].names == nothing {
		return word
	}
	return word + strconv.Itoa(s.N)
}

// read returns the step for which text is written.
func read(text string) (api.Step, bool) {
	word := strings.TrimRight(text, "0123456789")
	// Digits that are no number, or are not written as it is, show when the step is written again.
	n, _ := strconv.Atoi(text[len(word):])
	for op, known := range signs {
		s := api.Step{Op: op, N: n}
		if isOp(op) && known.word == word && written(s) == text {
			return s, true
		}
	}
	return api.Step{}, false
}
