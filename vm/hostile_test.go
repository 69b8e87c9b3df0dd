package vm

import (
	"math"
	"math/rand"
	"reflect"
	"slices"
	"testing"

	"jacquard/api"
	"jacquard/set"
)

// odd are numbers at which picks, places and fields may go wrong: some of them are
// 0, 1 or -1 when they are cut to few bits.
var odd = []int{math.MinInt, math.MinInt + 1, -1<<32 - 1, -1 << 32, -256, -65, -64, -24, -8, -4, -3, -2, -1, 0, 1, 2, 3, 4, 5, 7, 8, 11, 12, 23, 24, 25, 63, 64, 65, 255, 256, 257, 259, 1 << 16, 1 << 32, 1<<32 + 1, 1<<32 + 3, math.MaxInt - 1, math.MaxInt}

// Any number as a pick, at any place of a row.
func Test16_5AnyPick(t *testing.T) {
	for _, body := range bodies {
		p := compile(t, body)
		for _, m := range models {
			v, w := machine(t, p, m), newPlain(p, m)
			for {
				may := w.enabled()
				for _, i := range odd {
					Name(i)
					c, d := v.Copy(), w.copy()
					if slices.Contains(may, i) {
						both(t, c, d, i)
					} else if s, ok := c.Pick(i); ok || s != (api.Step{}) {
						t.Fatalf("%q, model %d: pick %d: %v %v", body, m, i, s, ok)
					}
					holdTold(t, c, d)
				}
				if len(may) == 0 {
					break
				}
				both(t, v, w, may[len(w.steps)%len(may)])
			}
		}
	}
}

// Programs that Compile could not give, each number of them odd, with any model.
func Test16_5AnyProgram(t *testing.T) {
	r := rand.New(rand.NewSource(165))
	number := func() int {
		if r.Intn(3) > 0 {
			return r.Intn(7) - 1
		}
		return odd[r.Intn(len(odd))]
	}
	operand := func() api.Operand { return api.Operand{Reg: number(), Value: int64(number())} }
	taken := 0
	for range 30000 {
		p := api.Prog{Locs: make([]byte, r.Intn(6)), Init: make([]int64, r.Intn(6))}
		for at := range p.Locs {
			p.Locs[at] = byte('w' + at)
			if r.Intn(8) == 0 {
				p.Locs[at] = byte(number())
			}
		}
		for at := range p.Init {
			p.Init[at] = int64(number())
		}
		for range r.Intn(6) {
			list := make([]api.Ins, r.Intn(4))
			for at := range list {
				list[at] = api.Ins{Kind: number(), Reg: number(), Loc: number(), A: operand(), Op: number(), B: operand(), N: number()}
			}
			p.Threads = append(p.Threads, list)
		}
		if holdMade(t, p) {
			taken++
		}
		for _, m := range odd {
			if v, code := New(p, m); code == api.OK {
				v.Pick(number())
			}
		}
	}
	if taken == 0 || taken > 10000 {
		t.Error(taken)
	}
}

// Programs far too great are refused, and soon.
func Test16_5GreatPrograms(t *testing.T) {
	const many = 1_000_000
	fence := api.Ins{Kind: api.IFence}
	for name, p := range map[string]api.Prog{
		"threads":      {Threads: make([][]api.Ins, many)},
		"instructions": {Threads: [][]api.Ins{slices.Repeat([]api.Ins{fence}, many)}},
		"locations":    {Locs: make([]byte, many), Init: make([]int64, many), Threads: [][]api.Ins{{fence}}},
		"inits":        {Init: make([]int64, many), Threads: [][]api.Ins{{fence}}},
	} {
		for _, m := range append(slices.Clone(models), 0) {
			if v, code := New(p, m); v != nil || code != api.ErrArg {
				t.Error(name, m, code)
			}
		}
	}
}

// roomy is p with spare room behind each of its lists, which is full.
func roomy(p api.Prog) api.Prog {
	locs := append(slices.Clone(p.Locs), "mnopqrst"...)
	init := append(slices.Clone(p.Init), 91, 92, 93, 94)
	more := []api.Ins{{Kind: api.IStore, A: number(95)}, {Kind: api.IFence}}
	var threads [][]api.Ins
	for _, list := range p.Threads {
		full := append(slices.Clone(list), more...)
		threads = append(threads, full[:len(list)])
	}
	threads = append(threads, more)
	return api.Prog{Locs: locs[:len(p.Locs)], Init: init[:len(p.Init)], Threads: threads[:len(p.Threads)]}
}

// whole is p with its spare room, as far as roomy has filled it.
func whole(p api.Prog) api.Prog {
	threads := slices.Clone(p.Threads[:len(p.Threads)+1])
	for t, list := range p.Threads {
		threads[t] = list[:len(list)+2]
	}
	return api.Prog{Locs: p.Locs[:len(p.Locs)+8], Init: p.Init[:len(p.Init)+4], Threads: threads}
}

// Rule 3: a program that is handed in is not changed, nor the room behind it, by
// New nor by what machines do.
func Test16_5NothingHandedInIsChanged(t *testing.T) {
	r := rand.New(rand.NewSource(166))
	for round := range 500 {
		p := ready(t, anyTest(r, 4, 5))
		if round%2 > 0 {
			p = spoilt(r, p)
		}
		given := roomy(p)
		before := cloned(whole(given))
		for _, m := range models {
			if v, code := New(given, m); code == api.OK {
				toEnd(t, r, v, newPlain(p, m), 1)
			}
		}
		if !reflect.DeepEqual(cloned(whole(given)), before) {
			t.Fatalf("%v was %v", whole(given), before)
		}
	}
}

// Rule 3: a program is not kept. What becomes of it is not told by machines that
// were made of it.
func Test16_5NothingIsKept(t *testing.T) {
	r := rand.New(rand.NewSource(167))
	for round := range 500 {
		p := ready(t, anyTest(r, 4, 5))
		given, m := cloned(p), models[round%3]
		v, w := machine(t, given, m), newPlain(p, m)
		other := machine(t, compile(t, bodies[round%len(bodies)]), m)
		for at := range given.Locs {
			given.Locs[at], given.Init[at] = '!', -77
		}
		for _, list := range given.Threads {
			for at := range list {
				list[at] = api.Ins{Kind: api.IStore, Loc: 99, A: number(98)}
			}
		}
		for k := range given.Threads {
			given.Threads[k] = nil
		}
		for l := w.enabled(); len(l) > 0; l = w.enabled() {
			hold(t, v, w)
			both(t, v, w, l[r.Intn(len(l))])
			other.Pick(other.Enabled().First())
		}
		hold(t, v, w)
	}
}

// Rule 3: Steps is new memory, its spare room too.
func Test16_5StepsIsNewMemory(t *testing.T) {
	r := rand.New(rand.NewSource(168))
	for round := range 300 {
		p := ready(t, anyTest(r, 4, 6))
		m := models[round%3]
		v, w := machine(t, p, m), newPlain(p, m)
		for l := w.enabled(); len(l) > 0; l = w.enabled() {
			c := v.Copy()
			kept := v.Steps()
			for _, steps := range [][]api.Step{v.Steps(), c.Steps(), c.Copy().Steps()} {
				steps = steps[:cap(steps)]
				for at := range steps {
					steps[at] = api.Step{Pick: 9, T: 9, Kind: 9, Loc: 9, R: 9, W: 9, From: 9}
				}
			}
			holdTold(t, v, w)
			holdTold(t, c, w)
			both(t, v, w, l[r.Intn(len(l))])
			if !slices.Equal(kept, w.steps[:len(w.steps)-1]) {
				t.Fatal("a pick changes Steps that were told")
			}
		}
		hold(t, v, w)
	}
}

// A machine that New did not make: calls answer and end.
func Test16_5NotOfNew(t *testing.T) {
	var v VM
	for _, i := range odd {
		if s, ok := v.Pick(i); ok || s != (api.Step{}) {
			t.Error(i, s)
		}
	}
	if v.Enabled() != set.Of() || !v.Done() || v.Final() != (api.Final{}) || len(v.Steps()) != 0 || !v.Copy().Done() {
		t.Error(v)
	}
}
