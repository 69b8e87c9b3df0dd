package play

import (
	"math/rand"
	"slices"
	"testing"

	"jacquard/api"
	"jacquard/num"
	"jacquard/print"
	"jacquard/prog"
	"jacquard/well"
)

var models = []int{api.MSC, api.MTSO, api.MPSO}

// waiting is a store that a plain machine has not brought to memory.
type waiting struct {
	loc   int
	value int64
	id    int
}

// plain is a machine that has its stores as lists, in the order in which they were
// done, and its memory as a map from letters. It goes by letters throughout.
type plain struct {
	m       int
	threads [][]api.Ins
	locs    string
	pc      []int
	regs    [][4]int64
	stores  [][]waiting
	mem     map[byte]int64
	by      map[byte]int
	steps   []api.Step
}

func newPlain(p api.Prog, m int) *plain {
	v := &plain{m: m, locs: string(p.Locs), mem: map[byte]int64{}, by: map[byte]int{}}
	for at, letter := range p.Locs {
		v.mem[letter], v.by[letter] = p.Init[at], -1
	}
	for t, list := range p.Threads {
		v.threads = append(v.threads, slices.Clone(list))
		v.pc, v.regs, v.stores = append(v.pc, 0), append(v.regs, [4]int64{}), append(v.stores, nil)
		v.settle(t)
	}
	return v
}

func (v *plain) copy() *plain {
	c := *v
	c.pc, c.regs, c.steps = slices.Clone(v.pc), slices.Clone(v.regs), slices.Clone(v.steps)
	c.stores, c.mem, c.by = nil, map[byte]int64{}, map[byte]int{}
	for _, l := range v.stores {
		c.stores = append(c.stores, slices.Clone(l))
	}
	for letter := range v.mem {
		c.mem[letter], c.by[letter] = v.mem[letter], v.by[letter]
	}
	return &c
}

// settle does what stands at thread t's place and is nothing that memory knows of.
func (v *plain) settle(t int) {
	for v.pc[t] < len(v.threads[t]) {
		i := v.threads[t][v.pc[t]]
		if i.Kind == api.ISkip {
			if v.of(t, i.A) == v.of(t, i.B) {
				v.pc[t] += i.N
			}
		} else if i.Kind == api.ISet && i.Op == 0 {
			v.regs[t][i.Reg] = v.of(t, i.A)
		} else if i.Kind == api.ISet {
			v.regs[t][i.Reg], _ = num.Do(i.Op, v.of(t, i.A), v.of(t, i.B))
		} else {
			return
		}
		v.pc[t]++
	}
}

func (v *plain) of(t int, o api.Operand) int64 {
	if o.Reg < 0 {
		return o.Value
	}
	return v.regs[t][o.Reg]
}

// nextFlush is the place in thread t's list of the store that comes to memory
// next; with MPSO of those to loc. -1: there is none.
func (v *plain) nextFlush(t, loc int) int {
	return slices.IndexFunc(v.stores[t], func(w waiting) bool { return v.m == api.MTSO || w.loc == loc })
}

// flushOf is which flush pick i is by the model; false if it is none of it.
func (v *plain) flushOf(i int) (t, loc int, ok bool) {
	for t = range v.threads {
		if v.m == api.MTSO && i == 4+t {
			return t, 0, true
		}
		for loc = range v.locs {
			if v.m == api.MPSO && i == 8+4*t+loc {
				return t, loc, true
			}
		}
	}
	return 0, 0, false
}

func (v *plain) may(i int) bool {
	if i >= 0 && i < len(v.threads) {
		if v.pc[i] >= len(v.threads[i]) {
			return false
		}
		kind := v.threads[i][v.pc[i]].Kind
		return kind == api.IStore || kind == api.ILoad || len(v.stores[i]) == 0
	}
	t, loc, ok := v.flushOf(i)
	return ok && v.nextFlush(t, loc) >= 0
}

func (v *plain) enabled() []int {
	var l []int
	for i := range 64 {
		if v.may(i) {
			l = append(l, i)
		}
	}
	return l
}

// pick does pick i, which is enabled.
func (v *plain) pick(i int) api.Step {
	var s api.Step
	if t, loc, ok := v.flushOf(i); ok {
		at := v.nextFlush(t, loc)
		w := v.stores[t][at]
		v.stores[t] = slices.Delete(v.stores[t], at, at+1)
		v.mem[v.locs[w.loc]], v.by[v.locs[w.loc]] = w.value, w.id
		s = api.Step{Pick: i, T: t, Kind: 6, Loc: w.loc, W: w.value, From: w.id}
	} else {
		s = v.do(i, v.threads[i][v.pc[i]])
		v.pc[i]++
		v.settle(i)
	}
	v.steps = append(v.steps, s)
	return s
}

func (v *plain) do(t int, i api.Ins) api.Step {
	if i.Kind == api.IFence {
		return api.Step{Pick: t, T: t, Kind: 3, From: -1}
	}
	letter, now := v.locs[i.Loc], len(v.steps)
	s := api.Step{Pick: t, T: t, Loc: i.Loc}
	switch i.Kind {
	case api.IStore:
		s.Kind, s.W, s.From = 2, v.of(t, i.A), -1
		if v.m == api.MSC {
			v.mem[letter], v.by[letter] = s.W, now
		} else {
			v.stores[t] = append(v.stores[t], waiting{i.Loc, s.W, now})
		}
	case api.ILoad:
		s.Kind, s.R, s.From = 1, v.mem[letter], v.by[letter]
		for _, w := range v.stores[t] {
			if w.loc == i.Loc {
				s.R, s.From = w.value, w.id
			}
		}
		v.regs[t][i.Reg] = s.R
	case api.ICas:
		s.Kind, s.R, s.From = 5, v.mem[letter], v.by[letter]
		if a, b := v.of(t, i.A), v.of(t, i.B); s.R == a {
			s.Kind, s.W = 4, b
			v.mem[letter], v.by[letter] = b, now
		}
		v.regs[t][i.Reg] = s.R
	}
	return s
}

func (v *plain) final() api.Final {
	var f api.Final
	for t, regs := range v.regs {
		f.Regs[t] = regs
	}
	for at := range v.locs {
		f.Mem[at] = v.mem[v.locs[at]]
	}
	return f
}

// ended tells if no thread has anything left and nothing waits.
func (v *plain) ended() bool {
	for t, list := range v.threads {
		if v.pc[t] < len(list) || len(v.stores[t]) > 0 {
			return false
		}
	}
	return true
}

func number(n int64) api.Operand { return api.Operand{Reg: -1, Value: n} }

func register(r int) api.Operand { return api.Operand{Reg: r} }

func ready(t *testing.T, test api.Test) api.Prog {
	t.Helper()
	p, code := prog.Compile(test)
	if code != api.OK {
		t.Fatal(code, print.Test(test))
	}
	return p
}

func compile(t *testing.T, body string) api.Prog {
	t.Helper()
	test, err := well.Read("test a { " + body + " }")
	if err.Code != api.OK {
		t.Fatalf("%q: %v", body, err)
	}
	return ready(t, test)
}

// anyTest makes small tests in which threads often meet.
func anyTest(r *rand.Rand, threads, length int) api.Test {
	locs := "xyza"[:1+r.Intn(4)]
	operand := func() api.Operand {
		if r.Intn(3) > 0 {
			return number([]int64{0, 0, 1, 1, 2, -1, most, least}[r.Intn(8)])
		}
		return register(r.Intn(4))
	}
	t := api.Test{Name: "a"}
	for _, place := range r.Perm(len(locs))[:r.Intn(len(locs)+1)] {
		t.Init = append(t.Init, api.Init{Loc: int(locs[place]), Value: int64(r.Intn(5) - 2)})
	}
	left := api.MaxAll
	for range 1 + r.Intn(threads) {
		list := make([]api.Ins, r.Intn(min(length, left)+1))
		for at := range list {
			list[at] = anyIns(r, operand, int(locs[r.Intn(len(locs))]), len(list)-at-1)
		}
		left -= len(list)
		t.Threads = append(t.Threads, list)
	}
	return t
}

// anyIns has left instructions behind it.
func anyIns(r *rand.Rand, operand func() api.Operand, loc, left int) api.Ins {
	switch kind := r.Intn(12); {
	case kind < 4:
		return api.Ins{Kind: api.IStore, Loc: loc, A: operand()}
	case kind < 6:
		return api.Ins{Kind: api.ILoad, Reg: r.Intn(4), Loc: loc}
	case kind < 8:
		return api.Ins{Kind: api.ICas, Reg: r.Intn(4), Loc: loc, A: operand(), B: operand()}
	case kind == 8:
		return api.Ins{Kind: api.IFence}
	case kind == 9 && left > 0:
		return api.Ins{Kind: api.ISkip, A: operand(), B: operand(), N: 1 + r.Intn(left)}
	}
	i := api.Ins{Kind: api.ISet, Reg: r.Intn(4), A: operand(), B: number(0)}
	if i.Op = r.Intn(12); i.Op > 0 {
		i.B = operand()
	}
	return i
}
