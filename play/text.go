package play

import (
	"strings"

	"jacquard/vm"
)

const blank = " "

// Picks from flush on bring what waits of a thread to memory, those from cell on
// what waits of it for one location.
const (
	flush = 1 << 2
	cell  = 1 << 3
)

// Text is the name of each pick, parted by blanks; that of no pick is empty.
func Text(picks []int) string {
	var b strings.Builder
	for at, i := range picks {
		if at > 0 {
			b.WriteString(blank)
		}
		b.WriteString(vm.Name(i))
	}
	return b.String()
}

// Parse is the row of picks that s names; false if s is no such text.
func Parse(s string) ([]int, bool) {
	if s == "" {
		return nil, true
	}
	var picks []int
	for more := true; more; {
		var word string
		word, s, more = strings.Cut(s, blank)
		i, ok := named(word)
		if !ok {
			return nil, false
		}
		picks = append(picks, i)
	}
	return picks, true
}

// named is the pick that has this name; false if none has.
func named(word string) (int, bool) {
	i := like(word)
	return i, word != "" && vm.Name(i) == word
}

// like is the one pick that word may name, by its length, its first letter and
// the lowest bits of its digits. The rest of word is not looked at.
func like(word string) int {
	switch {
	case len(word) == len("t0") && word[0] == 't':
		return low(word[1])
	case len(word) == len("f0"):
		return flush | low(word[1])
	case len(word) == len("f0.0"):
		return cell + (low(word[1])<<2 | low(word[3]))
	}
	return -1
}

// low is the two lowest bits of a digit: of 0 to 3 the number itself.
func low(digit byte) int {
	return int(digit & 3)
}
