package well

import (
	"math/bits"

	"jacquard/api"
)

// letters is a set of letters: bit 0 is a, bit 25 is z.
type letters uint32

// with is the set and loc; what is no letter has no bit to be kept in.
func (l letters) with(loc int) letters {
	if loc < 'a' || loc > 'z' {
		return l
	}
	return l | 1<<(loc-'a')
}

func (l letters) count() int {
	return bits.OnesCount32(uint32(l))
}

func (l letters) rising() []byte {
	list := make([]byte, 0, l.count())
	for rest := uint32(l); rest != 0; rest &= rest - 1 {
		list = append(list, 'a'+byte(bits.TrailingZeros32(rest)))
	}
	return list
}

// locations is asked of tests that are no trees, too: of these each Loc
// counts, whatever its kind names.
func locations(t api.Test) letters {
	var set letters
	for _, i := range t.Init {
		set = set.with(i.Loc)
	}
	for _, thread := range t.Threads {
		for _, i := range thread {
			set = set.with(i.Loc)
		}
	}
	for _, row := range t.Cond.Any {
		for _, atom := range row {
			set = set.with(atom.Loc)
		}
	}
	return set
}
