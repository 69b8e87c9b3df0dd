// Package fit tells which programs are no greater than those that Compile makes:
// layers that give each event a number of its own have room for no others.
package fit

import "jacquard/api"

// Prog tells if p has no more threads, instructions and locations than a test
// may have, and leads nowhere beyond its locations.
func Prog(p api.Prog) bool {
	if len(p.Threads) > api.MaxThreads || len(p.Locs) > api.MaxLocs {
		return false
	}
	all := 0
	for _, list := range p.Threads {
		all += len(list)
		if len(list) > api.MaxIns || !within(list, len(p.Locs)) {
			return false
		}
	}
	return all <= api.MaxAll
}

// within tells if all locations of list are below locs.
func within(list []api.Ins, locs int) bool {
	for _, i := range list {
		if HasLoc(i.Kind) && (i.Loc < 0 || i.Loc >= locs) {
			return false
		}
	}
	return true
}

// HasLoc tells if instructions of kind ask for a location.
func HasLoc(kind int) bool {
	return kind == api.IStore || kind == api.ILoad || kind == api.ICas
}
