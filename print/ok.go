package print

import (
	"slices"

	"jacquard/api"
	"jacquard/num"
)

const (
	maxRegister = 3
	// An atom's thread is told by one digit.
	maxThread = 9
)

// Ok tells if some text has t as its tree, however long that text may be.
func Ok(t api.Test) bool {
	return isWord(t.Name) &&
		all(t.Init, okInit) &&
		all(t.Threads, okThread) &&
		okCond(t.Cond)
}

func all[T any](items []T, ok func(T) bool) bool {
	return !slices.ContainsFunc(items, func(item T) bool { return !ok(item) })
}

func okInit(i api.Init) bool {
	return isLocation(i.Loc)
}

func okThread(thread []api.Ins) bool {
	return all(thread, okIns)
}

// okIns holds i against an instruction that has nothing but what its kind
// names: whatever else is set tells them apart.
func okIns(i api.Ins) bool {
	switch i.Kind {
	case api.IStore:
		return i == api.Ins{Kind: api.IStore, Loc: i.Loc, A: i.A} &&
			isLocation(i.Loc) && okOperand(i.A)
	case api.ILoad:
		return i == api.Ins{Kind: api.ILoad, Reg: i.Reg, Loc: i.Loc} &&
			isRegister(i.Reg) && isLocation(i.Loc)
	case api.IFence:
		return i == api.Ins{Kind: api.IFence}
	case api.ICas:
		return i == api.Ins{Kind: api.ICas, Reg: i.Reg, Loc: i.Loc, A: i.A, B: i.B} &&
			isRegister(i.Reg) && isLocation(i.Loc) && okOperand(i.A) && okOperand(i.B)
	case api.ISet:
		return i == api.Ins{Kind: api.ISet, Reg: i.Reg, A: i.A, Op: i.Op, B: i.B} &&
			isRegister(i.Reg) && okOperand(i.A) && okSecond(i.Op, i.B)
	case api.ISkip:
		return i == api.Ins{Kind: api.ISkip, A: i.A, B: i.B, N: i.N} &&
			i.N >= 0 && okOperand(i.A) && okOperand(i.B)
	}
	return false
}

// okSecond is asked of what stands behind the first operand of a set.
func okSecond(op int, b api.Operand) bool {
	if op == 0 {
		return b == api.Operand{Reg: -1}
	}
	return num.Sign(op) != "" && okOperand(b)
}

func okOperand(o api.Operand) bool {
	if o.Reg == -1 {
		return true
	}
	return o == api.Operand{Reg: o.Reg} && isRegister(o.Reg)
}

func okCond(c api.Cond) bool {
	switch c.Kind {
	case 0:
		return len(c.Any) == 0
	case api.CExists, api.CForall:
		return len(c.Any) > 0 && all(c.Any, okRow)
	}
	return false
}

func okRow(row []api.Atom) bool {
	return len(row) > 0 && all(row, okAtom)
}

func okAtom(a api.Atom) bool {
	if a.Thread == -1 {
		return a == api.Atom{Thread: -1, Loc: a.Loc, Value: a.Value} && isLocation(a.Loc)
	}
	return a == api.Atom{Thread: a.Thread, Reg: a.Reg, Value: a.Value} &&
		0 <= a.Thread && a.Thread <= maxThread && isRegister(a.Reg)
}

func isRegister(reg int) bool {
	return 0 <= reg && reg <= maxRegister
}

func isLocation(loc int) bool {
	return 'a' <= loc && loc <= 'z'
}

func isWord(s string) bool {
	for at, c := range []byte(s) {
		digit := '0' <= c && c <= '9'
		if !isLocation(int(c)) && (at == 0 || !digit) {
			return false
		}
	}
	return s != ""
}
