package prog

import (
	"bytes"

	"jacquard/api"
	"jacquard/well"
)

// Compile makes t ready: its locations are places from 0 on, and each of them
// has a number to begin with. The error is well.Check's.
func Compile(t api.Test) (api.Prog, api.Errno) {
	if code := well.Check(t); code != api.OK {
		return api.Prog{}, code
	}
	locs := well.Locs(t)
	p := api.Prog{Locs: locs, Init: beginnings(t.Init, locs)}
	for _, list := range t.Threads {
		p.Threads = append(p.Threads, placed(list, locs))
	}
	return p, api.OK
}

func beginnings(inits []api.Init, locs []byte) []int64 {
	numbers := make([]int64, len(locs))
	for _, i := range inits {
		numbers[place(i.Loc, locs)] = i.Value
	}
	return numbers
}

// placed is a copy of list, so that no answer shares memory with a test.
func placed(list []api.Ins, locs []byte) []api.Ins {
	places := make([]api.Ins, len(list))
	for at, i := range list {
		if hasLoc(i.Kind) {
			i.Loc = place(i.Loc, locs)
		}
		places[at] = i
	}
	return places
}

// hasLoc keeps the Loc of the others at 0, which is no location there.
func hasLoc(kind int) bool {
	return kind == api.IStore || kind == api.ILoad || kind == api.ICas
}

// place is asked only of letters that are among locs.
func place(loc int, locs []byte) int {
	return bytes.IndexByte(locs, byte(loc))
}
