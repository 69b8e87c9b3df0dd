// Package num is whole numbers of 64 bits that wrap, with their signs and texts.
package num

import (
	"strconv"

	"jacquard/api"
)

// One table serves Sign and Op, so that the two cannot drift apart. Its first
// place is empty, as no op is 0.
var signs = [...]string{"", "+", "-", "*", "&", "|", "^", "<<", ">>", "==", "!=", "<"}

// Do answers a op b modulo 2^64, or false if there is no such op.
func Do(op int, a, b int64) (int64, bool) {
	switch op {
	case api.OAdd:
		return a + b, true
	case api.OSub:
		return a - b, true
	case api.OMul:
		return a * b, true
	case api.OAnd:
		return a & b, true
	case api.OOr:
		return a | b, true
	case api.OXor:
		return a ^ b, true
	case api.OShl:
		return a << modulo64(b), true
	case api.OShr:
		return a >> modulo64(b), true
	case api.OEq:
		return truth(a == b), true
	case api.ONe:
		return truth(a != b), true
	case api.OLess:
		return truth(a < b), true
	}
	return 0, false
}

// The remainder of % would take b's sign, and a shift by less than nought
// panics: the low bits are right for both signs.
func modulo64(b int64) uint {
	return uint(b & 63)
}

func truth(b bool) int64 {
	if b {
		return 1
	}
	return 0
}

// Parse answers the number whose Text is s, or false if there is none.
func Parse(s string) (int64, bool) {
	n, err := strconv.ParseInt(s, 10, 64)
	// strconv takes a plus, noughts ahead and `-0` too, which Text never writes.
	if err != nil || Text(n) != s {
		return 0, false
	}
	return n, true
}

// Text is n in digits, behind a minus if it is below nought.
func Text(n int64) string {
	return strconv.FormatInt(n, 10)
}

// Sign is how op is written; empty if there is no such op.
func Sign(op int) string {
	if op < api.OAdd || op > api.OLess {
		return ""
	}
	return signs[op]
}

// Op is the op that is written s, or false if there is none.
func Op(s string) (int, bool) {
	for op := api.OAdd; op <= api.OLess; op++ {
		if signs[op] == s {
			return op, true
		}
	}
	return 0, false
}

// Narrow keeps the lowest bits of n, the highest of them as the sign.
func Narrow(n int64, bits int) int64 {
	// Up and back down again: the way down brings the sign along.
	spare := uint(64 - min(max(bits, 1), 64))
	return n << spare >> spare
}
