package vm

import (
	"bytes"

	"jacquard/api"
	"jacquard/fit"
	"jacquard/prog"
)

// again is p, compiled anew of the test that p would be of; false if that comes
// to another program, or to none: Compile never gave p. It shares no memory with
// p.
func again(p api.Prog) (api.Prog, bool) {
	if !fit.Prog(p) || len(p.Init) != len(p.Locs) {
		return api.Prog{}, false
	}
	own, code := prog.Compile(source(p))
	if code != api.OK || !bytes.Equal(own.Locs, p.Locs) {
		return api.Prog{}, false
	}
	return own, true
}

// source is a test with the threads of p and what memory begins with. That names
// each location of p, so that the test needs no condition for those that no
// thread names.
func source(p api.Prog) api.Test {
	t := api.Test{Name: "a"}
	for loc, letter := range p.Locs {
		t.Init = append(t.Init, api.Init{Loc: int(letter), Value: p.Init[loc]})
	}
	for _, list := range p.Threads {
		t.Threads = append(t.Threads, lettered(list, p.Locs))
	}
	return t
}

// lettered is a copy of list in which places are letters again.
func lettered(list []api.Ins, locs []byte) []api.Ins {
	letters := make([]api.Ins, len(list))
	for at, i := range list {
		if fit.HasLoc(i.Kind) {
			i.Loc = int(locs[i.Loc])
		}
		letters[at] = i
	}
	return letters
}
