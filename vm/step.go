package vm

import (
	"jacquard/api"
	"jacquard/prog"
)

// may tells if i is Enabled.
func (v *VM) may(i int) bool {
	switch {
	case i < 0 || i >= picks:
		return false
	case i < flushes:
		return v.ready(i)
	case i < cells:
		return v.m == api.MTSO && v.waits(cell(i))
	}
	return v.m == api.MPSO && v.waits(cell(i))
}

// ready tells if thread t may do its next instruction: a fence and a cas let
// none of its stores wait.
func (v *VM) ready(t int) bool {
	i, ok := prog.Next(v.p, t, v.at[t])
	if i.Kind == api.IFence || i.Kind == api.ICas {
		return v.bufs[t].Empty()
	}
	return ok
}

// waits tells if a store of thread t to loc waits; with MTSO any store of it.
func (v *VM) waits(t, loc int) bool {
	// Most Bufs are empty, and to look into one costs far more.
	if v.bufs[t].Empty() {
		return false
	}
	_, _, _, ok := v.bufs[t].Oldest(loc)
	return ok
}

// step does the next instruction of a thread that is ready.
func (v *VM) step(t int) api.Step {
	i, _ := prog.Next(v.p, t, v.at[t])
	s := v.do(t, i)
	v.at[t] = prog.After(v.p, t, v.at[t], s.R)
	return s
}

func (v *VM) do(t int, i api.Ins) api.Step {
	switch i.Kind {
	case api.IStore:
		return v.store(t, i)
	case api.ILoad:
		return v.load(t, i)
	case api.ICas:
		return v.swap(t, i)
	}
	return api.Step{T: t, Kind: api.EFence, From: none}
}

func (v *VM) store(t int, i api.Ins) api.Step {
	value := prog.Value(i.A, v.at[t])
	if v.m == api.MSC {
		v.write(i.Loc, value, v.n)
	} else {
		b := v.bufs[t].Put(i.Loc, value, v.n)
		v.bufs[t] = &b
	}
	return api.Step{T: t, Kind: api.EWrite, Loc: i.Loc, W: value, From: none}
}

// load sees what waits of its own thread ahead of what memory has.
func (v *VM) load(t int, i api.Ins) api.Step {
	value, from, ok := v.bufs[t].Newest(i.Loc)
	if !ok {
		value, from = v.mem[i.Loc], v.wrote[i.Loc]
	}
	return api.Step{T: t, Kind: api.ERead, Loc: i.Loc, R: value, From: from}
}

// swap is a cas. None of its thread's stores waits, so that it reads memory.
func (v *VM) swap(t int, i api.Ins) api.Step {
	s := api.Step{T: t, Kind: api.ELost, Loc: i.Loc, R: v.mem[i.Loc], From: v.wrote[i.Loc]}
	if s.R == prog.Value(i.A, v.at[t]) {
		s.Kind, s.W = api.EWon, prog.Value(i.B, v.at[t])
		v.write(i.Loc, s.W, v.n)
	}
	return s
}

// flush lets a store of thread t come to memory.
func (v *VM) flush(t, loc int) api.Step {
	at, value, id, _ := v.bufs[t].Oldest(loc)
	b := v.bufs[t].Drop(loc)
	v.bufs[t] = &b
	v.write(at, value, id)
	return api.Step{T: t, Kind: api.EFlush, Loc: at, W: value, From: id}
}

// write puts into memory what step stored.
func (v *VM) write(loc int, value int64, step int) {
	v.mem[loc], v.wrote[loc] = value, step
}
