package event

import (
	"math"
	"math/rand"
	"reflect"
	"slices"
	"strings"
	"testing"

	"jacquard/api"
	"jacquard/num"
	"jacquard/print"
	"jacquard/prog"
	"jacquard/rel"
	"jacquard/well"
)

const most, least = math.MaxInt64, math.MinInt64

// noThreads are numbers that are no thread of a program of four threads or
// fewer. Among them are those that are 0 or 1 when they are cut to few bits.
var noThreads = []int{-1, -2, -64, 4, 5, 64, 256, 1 << 32, 1<<32 + 1, -1 << 32, math.MinInt, math.MinInt + 1, math.MaxInt - 1, math.MaxInt}

// strangers are kinds of no event: api.EFlush, which is one of steps alone, and
// numbers of which some are 1 to 5 when they are cut to few bits.
var strangers = []int{0, 6, 7, 8, 9, -1, -2, -3, -4, -5, 63, 64, 65, 66, 67, 68, 69, 257, 260, 1<<32 + 1, 1<<32 + 4, -1 << 32, math.MinInt, math.MinInt + 1, math.MinInt + 4, math.MaxInt, math.MaxInt - 1}

func number(n int64) api.Operand { return api.Operand{Reg: -1, Value: n} }

func register(r int) api.Operand { return api.Operand{Reg: r} }

func at(pc int, regs ...int64) api.Local {
	l := api.Local{PC: pc}
	copy(l.Regs[:], regs)
	return l
}

func reads(loc int, r int64) api.Ev { return api.Ev{Kind: 1, Loc: loc, R: r} }

func writes(loc int, w int64) api.Ev { return api.Ev{Kind: 2, Loc: loc, W: w} }

func fences() api.Ev { return api.Ev{Kind: 3} }

func won(loc int, r, w int64) api.Ev { return api.Ev{Kind: 4, Loc: loc, R: r, W: w} }

func lost(loc int, r int64) api.Ev { return api.Ev{Kind: 5, Loc: loc, R: r} }

// event has each field by its place in the struct.
func event(t, i, kind, loc int, r, w int64) api.Ev {
	return api.Ev{T: t, I: i, Kind: kind, Loc: loc, R: r, W: w}
}

// begins is the events at the beginning, if places 0, 1 and so on begin with w.
func begins(w ...int64) []api.Ev {
	var evs []api.Ev
	for loc, n := range w {
		evs = append(evs, event(-1, loc, 2, loc, 0, n))
	}
	return evs
}

// row is the events as those of thread k, one after the other.
func row(k int, evs ...api.Ev) []api.Ev {
	list := slices.Clone(evs)
	for i := range list {
		list[i].T, list[i].I = k, i
	}
	return list
}

func read(t *testing.T, body string) api.Test {
	t.Helper()
	test, err := well.Read("test a { " + body + " }")
	if err.Code != api.OK {
		t.Fatalf("%q: %v", body, err)
	}
	return test
}

func ready(t *testing.T, test api.Test) api.Prog {
	t.Helper()
	p, code := prog.Compile(test)
	if code != api.OK {
		t.Fatal(code, print.Test(test))
	}
	return p
}

func compile(t *testing.T, body string) api.Prog {
	t.Helper()
	return ready(t, read(t, body))
}

func holdUnfold(t *testing.T, p api.Prog, k int, values []int64, want []api.Ev, end api.Local, more bool) {
	t.Helper()
	evs, gotEnd, gotMore := Unfold(p, k, values)
	if !slices.Equal(evs, want) || gotEnd != end || gotMore != more {
		t.Fatalf("thread %d of %v with %v:\n%v %v %v, want\n%v %v %v", k, p.Threads, values, evs, gotEnd, gotMore, want, end, more)
	}
}

// No event tells more than its kind has.
func Test10_1EachKind(t *testing.T) {
	p := compile(t, `init { c = 9 ; } thread { }
		thread { r1 = load b ; store c r1 ; fence ; r2 = cas b r1 8 ; r3 = cas c 2 r2 ; store a -4 ; }`)
	want := []api.Ev{
		event(1, 0, api.ERead, 1, 7, 0),
		event(1, 1, api.EWrite, 2, 0, 7),
		event(1, 2, api.EFence, 0, 0, 0),
		event(1, 3, api.EWon, 1, 7, 8),
		event(1, 4, api.ELost, 2, 3, 0),
		event(1, 5, api.EWrite, 0, 0, -4),
	}
	holdUnfold(t, p, 1, []int64{7, 7, 3}, want, at(6, 0, 7, 7, 3), false)
	for i, kind := range []int{1, 2, 3, 4, 5, 2} {
		if want[i].Kind != kind {
			t.Errorf("event %d is %d", i, want[i].Kind)
		}
	}
}

func Test10_1Kinds(t *testing.T) {
	type does struct{ reads, writes, fences bool }
	kinds := map[int]does{
		1: {reads: true},
		2: {writes: true},
		3: {fences: true},
		4: {reads: true, writes: true, fences: true},
		5: {reads: true, fences: true},
	}
	for _, kind := range append([]int{1, 2, 3, 4, 5}, strangers...) {
		// Nothing but the kind is asked for.
		for _, e := range []api.Ev{{}, {T: -1, I: 3, Loc: 3, R: 1, W: 1}, {T: 1, I: 1, Loc: 1, W: most}, {T: math.MinInt, I: math.MaxInt, Loc: math.MinInt, R: least}} {
			e.Kind = kind
			if got := (does{Reads(e), Writes(e), Fences(e)}); got != kinds[kind] {
				t.Errorf("%v: %v, want %v", e, got, kinds[kind])
			}
		}
	}
	for kind := -300; kind <= 300; kind++ {
		e := api.Ev{Kind: kind}
		if got := (does{Reads(e), Writes(e), Fences(e)}); got != kinds[kind] {
			t.Errorf("kind %d: %v, want %v", kind, got, kinds[kind])
		}
	}
}

func Test10_1Inits(t *testing.T) {
	for _, x := range []struct {
		body string
		want []api.Ev
	}{
		{"thread { }", nil},
		{"thread { fence ; r0 = 1 ; }", nil},
		{"init { } thread { fence ; }", nil},
		{"thread { store x 5 ; }", begins(0)},
		{"init { x = 0 ; } thread { store x 5 ; }", begins(0)},
		{"init { x = 7 ; } thread { store x 5 ; }", begins(7)},
		{"init { x = 7 ; } thread { }", begins(7)},
		{"thread { r0 = load z ; } thread { r0 = cas a 1 2 ; }", begins(0, 0)},
		{"init { y = 3 ; } thread { store x 1 ; } thread { store z 1 ; }", begins(0, 3, 0)},
		{"thread { } exists b = 1 & a = 2 ;", begins(0, 0)},
		{"init { z = 4 ; a = -9223372036854775808 ; y = -1 ; c = 9223372036854775807 ; } thread { store y 1 ; }",
			begins(least, most, -1, 4)},
	} {
		p := compile(t, x.body)
		if got := Inits(p); !slices.Equal(got, x.want) {
			t.Errorf("%q: %v, want %v", x.body, got, x.want)
		}
	}
}

func Test10_1InitsOfAny(t *testing.T) {
	r := rand.New(rand.NewSource(101))
	for range 5000 {
		test := anyTest(r)
		evs := Inits(ready(t, test))
		for place, letter := range well.Locs(test) {
			want := api.Ev{T: -1, I: place, Kind: 2, Loc: place}
			for _, i := range test.Init {
				if i.Loc == int(letter) {
					want.W = i.Value
				}
			}
			if place >= len(evs) || evs[place] != want {
				t.Fatalf("%v, want %v at %d: %s", evs, want, place, print.Test(test))
			}
			if !Writes(evs[place]) || Reads(evs[place]) || Fences(evs[place]) {
				t.Fatal(evs[place])
			}
		}
		if len(evs) != len(well.Locs(test)) {
			t.Fatalf("%v: %s", evs, print.Test(test))
		}
	}
}

// Ways: an event is a value, and may be a key; like events are one.
func Test10_1EventsAreKeys(t *testing.T) {
	p := compile(t, "init { y = 2 ; } thread { r0 = load x ; r1 = r0 & 1 ; r0 = 0 ; store y r1 ; r1 = cas x 1 2 ; fence ; }")
	seen := map[api.Ev]int{}
	for a := range int64(4) {
		for b := range int64(3) {
			evs, _, _ := Unfold(p, 0, []int64{a, b})
			for _, e := range append(evs, Inits(p)...) {
				seen[e]++
			}
		}
	}
	want := map[api.Ev]int{
		event(0, 0, 1, 0, 0, 0): 3, event(0, 0, 1, 0, 1, 0): 3, event(0, 0, 1, 0, 2, 0): 3, event(0, 0, 1, 0, 3, 0): 3,
		event(0, 1, 2, 1, 0, 0): 6, event(0, 1, 2, 1, 0, 1): 6,
		event(0, 2, 5, 0, 0, 0): 4, event(0, 2, 4, 0, 1, 2): 4, event(0, 2, 5, 0, 2, 0): 4,
		event(0, 3, 3, 0, 0, 0):  12,
		event(-1, 0, 2, 0, 0, 0): 12, event(-1, 1, 2, 1, 0, 2): 12,
	}
	if !reflect.DeepEqual(seen, want) {
		t.Errorf("%v, want %v", seen, want)
	}
}

func Test10_2Unfold(t *testing.T) {
	five := []int64{5}
	for _, x := range []struct {
		name, body string
		values     []int64
		want       []api.Ev
		end        api.Local
		more       bool
	}{
		{"the chapter's example", "r0 = load x ; store y r0 ;", five, row(0, reads(0, 5), writes(1, 5)), at(2, 5), false},
		{"the example with none", "r0 = load x ; store y r0 ;", nil, nil, at(0), true},
		{"the example with an empty row", "r0 = load x ; store y r0 ;", []int64{}, nil, at(0), true},
		{"the example with two", "r0 = load x ; store y r0 ;", []int64{5, 6}, row(0, reads(0, 5), writes(1, 5)), at(2, 5), false},
		{"no instruction", "", nil, nil, at(0), false},
		{"no instruction, a value", "", five, nil, at(0), false},
		{"no memory", "r0 = 3 ; r1 = r0 * r0 ;", nil, nil, at(2, 3, 9), false},
		{"no memory, a value", "r0 = 3 ; r1 = r0 * r0 ;", five, nil, at(2, 3, 9), false},
		{"all is skipped", "skip 2 if 0 == r0 ; r1 = load x ; fence ;", five, nil, at(3), false},
		{"a fence", "fence ;", nil, row(0, fences()), at(1), false},
		{"a fence, a value", "fence ;", five, row(0, fences()), at(1), false},
		{"a store", "store x -6 ;", nil, row(0, writes(0, -6)), at(1), false},
		{"a store, a value", "store x -6 ;", five, row(0, writes(0, -6)), at(1), false},
		{"a store of a register", "r2 = 8 ; store x r2 ;", nil, row(0, writes(0, 8)), at(2, 0, 0, 8), false},
		{"a store of 0", "store x r3 ;", nil, row(0, writes(0, 0)), at(1), false},
		{"stores and fences alone", "store y 1 ; fence ; store x 2 ; fence ; store y 3 ;", nil,
			row(0, writes(1, 1), fences(), writes(0, 2), fences(), writes(1, 3)), at(5), false},
		{"a load", "r3 = load x ;", five, row(0, reads(0, 5)), at(1, 0, 0, 0, 5), false},
		{"a load of 0", "r3 = load x ;", []int64{0}, row(0, reads(0, 0)), at(1), false},
		{"a load of the most", "r1 = load x ;", []int64{most}, row(0, reads(0, most)), at(1, 0, most), false},
		{"a load of the least", "r1 = load x ;", []int64{least}, row(0, reads(0, least)), at(1, 0, least), false},
		{"loads, each of its value", "r0 = load z ; r1 = load y ; r2 = load x ; r0 = load w ;", []int64{1, 2, 3, 4, 5},
			row(0, reads(3, 1), reads(2, 2), reads(1, 3), reads(0, 4)), at(4, 4, 2, 3), false},
		{"loads, just as many", "r0 = load x ; r1 = load x ;", []int64{1, 2}, row(0, reads(0, 1), reads(0, 2)), at(2, 1, 2), false},
		{"loads, one fewer", "r0 = load x ; r1 = load x ;", []int64{1}, row(0, reads(0, 1)), at(1, 1), true},
		{"what comes ahead of a read is done", "store x 1 ; fence ; r0 = 4 ; store y r0 ; r1 = load x ; store x 2 ;", nil,
			row(0, writes(0, 1), fences(), writes(1, 4)), at(4, 4), true},
		{"what comes behind the last read is done", "r1 = load x ; store x 2 ; fence ; r0 = 4 ;", five,
			row(0, reads(0, 5), writes(0, 2), fences()), at(4, 4, 5), false},
		{"sets and skips behind the last value", "r1 = load x ; skip 1 if r1 == 5 ; fence ; r2 = r1 + 1 ; r3 = load x ;", five,
			row(0, reads(0, 5)), at(4, 0, 5, 6), true},
		{"a cas that finds its number", "r0 = cas x 5 9 ;", five, row(0, won(0, 5, 9)), at(1, 5), false},
		{"a cas that does not", "r0 = cas x 4 9 ;", five, row(0, lost(0, 5)), at(1, 5), false},
		{"a cas that finds 0", "r0 = cas x 0 9 ;", []int64{0}, row(0, won(0, 0, 9)), at(1), false},
		{"a cas that finds the least", "r0 = cas x -9223372036854775808 9223372036854775807 ;", []int64{least}, row(0, won(0, least, most)), at(1, least), false},
		{"a cas that writes what it found", "r0 = cas x 5 5 ;", five, row(0, won(0, 5, 5)), at(1, 5), false},
		{"a cas that writes 0", "r0 = cas x 5 0 ;", five, row(0, won(0, 5, 0)), at(1, 5), false},
		{"a cas that finds what it would write", "r0 = cas x 4 5 ;", five, row(0, lost(0, 5)), at(1, 5), false},
		{"a cas without a value", "fence ; r0 = cas x 4 5 ;", nil, row(0, fences()), at(1), true},
		{"a cas as the last without a value", "r1 = load x ; r0 = cas x 4 5 ;", five, row(0, reads(0, 5)), at(1, 0, 5), true},
		{"a cas as the last with its value", "r1 = load y ; r0 = cas x 4 r1 ;", []int64{5, 4}, row(0, reads(1, 5), won(0, 4, 5)), at(2, 4, 5), false},
		{"a cas of registers", "r0 = 5 ; r1 = 6 ; r2 = cas y r0 r1 ; store x r2 ;", five, row(0, won(1, 5, 6), writes(0, 5)), at(4, 5, 6, 5), false},
		{"a cas of registers, lost", "r0 = 6 ; r1 = 5 ; r2 = cas y r0 r1 ; store x r2 ;", five, row(0, lost(1, 5), writes(0, 5)), at(4, 6, 5, 5), false},
		// A and B are what they were ahead of the read.
		{"a cas into its A", "r0 = 4 ; r0 = cas x r0 1 ;", five, row(0, lost(0, 5)), at(2, 5), false},
		{"a cas into its B", "r0 = 4 ; r0 = cas x 5 r0 ;", five, row(0, won(0, 5, 4)), at(2, 5), false},
		{"a cas into both", "r0 = 5 ; r0 = cas x r0 r0 ; r0 = cas x r0 r0 ;", []int64{5, 6}, row(0, won(0, 5, 5), lost(0, 6)), at(3, 6), false},
		{"a skip of what is read", "r0 = load x ; skip 2 if r0 == 5 ; store x 1 ; fence ; store x 2 ;", five, row(0, reads(0, 5), writes(0, 2)), at(5, 5), false},
		{"a skip of another number", "r0 = load x ; skip 2 if r0 == 6 ; store x 1 ; fence ; store x 2 ;", five,
			row(0, reads(0, 5), writes(0, 1), fences(), writes(0, 2)), at(5, 5), false},
		{"a skip over a read", "skip 1 if r0 == 0 ; r0 = load x ; r1 = load y ;", five, row(0, reads(1, 5)), at(3, 0, 5), false},
		{"a skip over the last read", "skip 1 if r0 == 0 ; r0 = load x ; fence ;", nil, row(0, fences()), at(3), false},
		{"a skip of a cas", "r0 = cas x 1 2 ; skip 1 if r0 == 1 ; r0 = cas x 5 2 ; store y r0 ;", []int64{5, 5}, row(0, lost(0, 5), won(0, 5, 2), writes(1, 5)), at(4, 5), false},
		{"a register set behind a read", "r0 = load x ; store x r0 ; r0 = 7 ; store x r0 ;", five, row(0, reads(0, 5), writes(0, 5), writes(0, 7)), at(4, 7), false},
	} {
		t.Run(x.name, func(t *testing.T) {
			holdUnfold(t, compile(t, "thread { "+x.body+" }"), 0, x.values, x.want, x.end, x.more)
			// The same thread behind others is the same.
			p := compile(t, "thread { } thread { fence ; } thread { r0 = 1 ; } thread { "+x.body+" }")
			holdUnfold(t, p, 3, x.values, row(3, x.want...), x.end, x.more)
		})
	}
}

// Each thread by its own number: its events have it, and are its own.
func Test10_2EachThread(t *testing.T) {
	p := compile(t, "thread { store x 1 ; } thread { r0 = load y ; } thread { fence ; } thread { r2 = cas z 1 3 ; }")
	values := []int64{1}
	holdUnfold(t, p, 0, values, row(0, writes(0, 1)), at(1), false)
	holdUnfold(t, p, 1, values, row(1, reads(1, 1)), at(1, 1), false)
	holdUnfold(t, p, 2, values, row(2, fences()), at(1), false)
	holdUnfold(t, p, 3, values, row(3, won(2, 1, 3)), at(1, 0, 0, 1), false)
}

func Test10_2NoThread(t *testing.T) {
	bodies := []string{"r0 = 7 ; store x 1 ;", "r1 = load x ;", "r2 = 5 ; fence ;", "r3 = cas x 0 1 ;"}
	body := ""
	for n, next := range bodies {
		body += "thread { " + next + " } "
		p := compile(t, body)
		for _, k := range append([]int{n + 1, n + 2}, noThreads...) {
			for _, values := range [][]int64{nil, {}, {0}, {1, 2, 3}} {
				holdUnfold(t, p, k, values, nil, api.Local{}, false)
			}
		}
	}
	for _, p := range []api.Prog{{}, {Threads: [][]api.Ins{}}, {Locs: []byte("x"), Init: []int64{5}}} {
		for _, k := range append([]int{0, 1}, noThreads...) {
			holdUnfold(t, p, k, []int64{5}, nil, api.Local{}, false)
		}
	}
}

// told is a second reckoning of a thread, from its list with letters: one
// instruction after the other, none of which is looked at twice.
func told(list []api.Ins, k int, locs []byte, values []int64) (evs []api.Ev, end api.Local, more bool) {
	var regs [4]int64
	of := func(o api.Operand) int64 {
		if o.Reg == -1 {
			return o.Value
		}
		return regs[o.Reg]
	}
	used, out := 0, 0
	for pc, i := range list {
		if out > 0 {
			out--
			continue
		}
		e := api.Ev{T: k, I: len(evs), Loc: slices.Index(locs, byte(i.Loc))}
		if (i.Kind == api.ILoad || i.Kind == api.ICas) && used == len(values) {
			return evs, api.Local{PC: pc, Regs: regs}, true
		}
		switch i.Kind {
		case api.ISet:
			n, ok := num.Do(i.Op, of(i.A), of(i.B))
			if !ok {
				n = of(i.A)
			}
			regs[i.Reg] = n
			continue
		case api.ISkip:
			if of(i.A) == of(i.B) {
				out = i.N
			}
			continue
		case api.IStore:
			e.Kind, e.W = 2, of(i.A)
		case api.IFence:
			e.Kind, e.Loc = 3, 0
		case api.ILoad:
			e.Kind, e.R = 1, values[used]
		case api.ICas:
			if e.Kind, e.R = 5, values[used]; e.R == of(i.A) {
				e.Kind, e.W = 4, of(i.B)
			}
		}
		if i.Kind == api.ILoad || i.Kind == api.ICas {
			regs[i.Reg] = values[used]
			used++
		}
		evs = append(evs, e)
	}
	return evs, api.Local{PC: len(list), Regs: regs}, false
}

// All threads of up to three of a few instructions, with all rows of up to four
// values: each kind is first, last and next to each other one.
func Test10_2AllShortThreads(t *testing.T) {
	few := []api.Ins{
		{Kind: api.IFence},
		{Kind: api.IStore, Loc: 'x', A: register(0)},
		{Kind: api.ILoad, Reg: 0, Loc: 'y'},
		{Kind: api.ICas, Reg: 0, Loc: 'x', A: number(1), B: number(2)},
		{Kind: api.ICas, Reg: 1, Loc: 'y', A: register(0), B: register(1)},
		{Kind: api.ISet, Reg: 0, A: register(0), Op: api.OAdd, B: number(1)},
		{Kind: api.ISkip, A: register(0), B: number(1), N: 1},
		{Kind: api.ISkip, A: register(1), B: register(0), N: 2},
	}
	taken := 0
	var longer func(list []api.Ins)
	longer = func(list []api.Ins) {
		if p, code := prog.Compile(api.Test{Name: "a", Threads: [][]api.Ins{list}}); code == api.OK {
			taken++
			for n := range 5 {
				for bits := range 1 << n {
					values := make([]int64, n)
					for at := range values {
						values[at] = int64(bits >> at & 1)
					}
					evs, end, more := told(list, 0, p.Locs, values)
					holdUnfold(t, p, 0, values, evs, end, more)
				}
			}
		}
		if len(list) == 3 {
			return
		}
		for _, i := range few {
			longer(append(slices.Clone(list), i))
		}
	}
	longer(nil)
	if taken < 300 {
		t.Error("only", taken, "threads")
	}
}

// anyTest makes tests of every kind of instruction that Check takes.
func anyTest(r *rand.Rand) api.Test {
	locs := "awxz"
	operand := func() api.Operand {
		if r.Intn(2) == 0 {
			return number([]int64{0, 1, 2, -1, most, least}[r.Intn(6)])
		}
		return register(r.Intn(4))
	}
	t := api.Test{Name: "a"}
	for _, place := range r.Perm(4)[:r.Intn(5)] {
		t.Init = append(t.Init, api.Init{Loc: int(locs[place]), Value: r.Int63()})
	}
	for range 1 + r.Intn(4) {
		list := make([]api.Ins, r.Intn(7))
		for at := range list {
			list[at] = anyIns(r, operand, int(locs[r.Intn(4)]), len(list)-at-1)
		}
		t.Threads = append(t.Threads, list)
	}
	return t
}

// anyIns has left instructions behind it.
func anyIns(r *rand.Rand, operand func() api.Operand, loc, left int) api.Ins {
	switch kind := r.Intn(9); {
	case kind < 2:
		return api.Ins{Kind: api.IStore, Loc: loc, A: operand()}
	case kind < 4:
		return api.Ins{Kind: api.ILoad, Reg: r.Intn(4), Loc: loc}
	case kind < 6:
		return api.Ins{Kind: api.ICas, Reg: r.Intn(4), Loc: loc, A: operand(), B: operand()}
	case kind == 6:
		return api.Ins{Kind: api.IFence}
	case kind == 7 && left > 0:
		return api.Ins{Kind: api.ISkip, A: operand(), B: operand(), N: 1 + r.Intn(left)}
	}
	i := api.Ins{Kind: api.ISet, Reg: r.Intn(4), A: operand(), B: number(0)}
	if i.Op = r.Intn(12); i.Op > 0 {
		i.B = operand()
	}
	return i
}

func someValues(r *rand.Rand, n int) []int64 {
	values := make([]int64, n)
	for at := range values {
		values[at] = []int64{0, 0, 1, 2, -1, most, least, r.Int63()}[r.Intn(8)]
	}
	return values
}

func Test10_2AnyThreads(t *testing.T) {
	r := rand.New(rand.NewSource(102))
	kinds := map[int]int{}
	ends := map[bool]int{}
	for range 20000 {
		test := anyTest(r)
		p := ready(t, test)
		for k, list := range test.Threads {
			values := someValues(r, r.Intn(len(list)+2))
			evs, end, more := told(list, k, p.Locs, values)
			holdUnfold(t, p, k, values, evs, end, more)
			for _, e := range evs {
				kinds[e.Kind]++
			}
			ends[more]++
		}
	}
	for kind := 1; kind <= 5; kind++ {
		if kinds[kind] < 2000 {
			t.Errorf("only %d events of kind %d", kinds[kind], kind)
		}
	}
	if len(kinds) != 5 || ends[true] < 5000 || ends[false] < 5000 {
		t.Error(kinds, ends)
	}
}

// As many events as a thread has instructions, of each kind that makes one.
func Test10_2TenEvents(t *testing.T) {
	values := []int64{0, 1, 2, 3, 4, 5, 6, 7, 8, 9, 10}
	for ins, does := range map[string]func(v int64) api.Ev{
		"fence ; ":          func(int64) api.Ev { return fences() },
		"store x r0 ; ":     func(int64) api.Ev { return writes(0, 0) },
		"r1 = load x ; ":    func(v int64) api.Ev { return reads(0, v) },
		"r1 = cas x -1 2 ;": func(v int64) api.Ev { return lost(0, v) },
	} {
		p := compile(t, "thread { "+strings.Repeat(ins, 10)+"}")
		var want []api.Ev
		for _, v := range values[:10] {
			want = append(want, does(v))
		}
		isRead := Reads(want[0])
		end := at(10)
		if isRead {
			end = at(10, 0, 9)
		}
		holdUnfold(t, p, 0, values, row(0, want...), end, false)
		holdUnfold(t, p, 0, values[:10], row(0, want...), end, false)
		if isRead {
			holdUnfold(t, p, 0, values[:9], row(0, want[:9]...), at(9, 0, 8), true)
		} else {
			holdUnfold(t, p, 0, nil, row(0, want...), end, false)
		}
	}
}

func relOf(n int, pairs ...[2]int) rel.Rel {
	r := rel.New(n)
	for _, p := range pairs {
		r = r.Add(p[0], p[1])
	}
	return r
}

func Test10_2PO(t *testing.T) {
	for name, x := range map[string]struct {
		evs  []api.Ev
		want rel.Rel
	}{
		"nil":                      {nil, relOf(0)},
		"empty":                    {[]api.Ev{}, relOf(0)},
		"one":                      {[]api.Ev{{}}, relOf(1)},
		"one of the beginning":     {[]api.Ev{{T: -1}}, relOf(1)},
		"one thread":               {[]api.Ev{{I: 0}, {I: 1}, {I: 2}}, relOf(3, [2]int{0, 1}, [2]int{0, 2}, [2]int{1, 2})},
		"one thread, falling":      {[]api.Ev{{I: 2}, {I: 1}, {I: 0}}, relOf(3, [2]int{2, 1}, [2]int{2, 0}, [2]int{1, 0})},
		"one thread, with gaps":    {[]api.Ev{{T: 3, I: 9}, {T: 3, I: 0}, {T: 3, I: 4}}, relOf(3, [2]int{1, 0}, [2]int{1, 2}, [2]int{2, 0})},
		"two threads":              {[]api.Ev{{T: 0, I: 0}, {T: 1, I: 0}, {T: 0, I: 1}, {T: 1, I: 1}}, relOf(4, [2]int{0, 2}, [2]int{1, 3})},
		"threads of one event":     {[]api.Ev{{T: 0}, {T: 1, I: 1}, {T: 2, I: 2}, {T: 3, I: 3}}, relOf(4)},
		"the same number":          {[]api.Ev{{I: 1, Kind: 1}, {I: 1, Kind: 2}, {I: 1, Kind: 1}}, relOf(3)},
		"the same number, next":    {[]api.Ev{{I: 1}, {I: 1}, {I: 2}, {I: 0}}, relOf(4, [2]int{0, 2}, [2]int{1, 2}, [2]int{3, 0}, [2]int{3, 1}, [2]int{3, 2})},
		"the beginning alone":      {[]api.Ev{{T: -1, I: 0}, {T: -1, I: 1}, {T: -1, I: 2}}, relOf(3)},
		"the beginning of several": {[]api.Ev{{T: -1, I: 0}, {T: -2, I: 1}, {T: math.MinInt, I: 2}}, relOf(3)},
		"the beginning first":      {[]api.Ev{{T: -1, I: 5}, {T: 0, I: 0}, {T: 1, I: 9}}, relOf(3, [2]int{0, 1}, [2]int{0, 2})},
		"the beginning last":       {[]api.Ev{{T: 0, I: 0}, {T: 1, I: 9}, {T: -1, I: 5}}, relOf(3, [2]int{2, 0}, [2]int{2, 1})},
		"any T below 0": {[]api.Ev{{T: 2}, {T: -1}, {T: -2}, {T: -64, I: 7}, {T: math.MinInt, I: math.MaxInt}},
			relOf(5, [2]int{1, 0}, [2]int{2, 0}, [2]int{3, 0}, [2]int{4, 0})},
		"the beginning by its own I": {[]api.Ev{{T: math.MinInt, I: math.MaxInt}, {T: math.MaxInt, I: math.MinInt}}, relOf(2, [2]int{0, 1})},
		"I below 0": {[]api.Ev{{I: 0}, {I: -1}, {I: math.MinInt}, {I: math.MaxInt}},
			relOf(4, [2]int{2, 1}, [2]int{2, 0}, [2]int{2, 3}, [2]int{1, 0}, [2]int{1, 3}, [2]int{0, 3})},
		"I at the ends of int": {[]api.Ev{{I: math.MaxInt}, {I: math.MaxInt}, {I: math.MinInt}, {I: math.MinInt}},
			relOf(4, [2]int{2, 0}, [2]int{2, 1}, [2]int{3, 0}, [2]int{3, 1})},
		"T at the ends of int": {[]api.Ev{{T: math.MaxInt, I: 1}, {T: math.MaxInt, I: 0}, {T: 0, I: 2}, {T: math.MinInt}},
			relOf(4, [2]int{1, 0}, [2]int{3, 0}, [2]int{3, 1}, [2]int{3, 2})},
		"T alike in few bits":       {[]api.Ev{{T: 0}, {T: 1 << 32, I: 1}, {T: 256, I: 2}, {T: 64, I: 3}}, relOf(4)},
		"I alike in few bits":       {[]api.Ev{{I: 1 << 32}, {I: 0}, {I: -1 << 32}}, relOf(3, [2]int{1, 0}, [2]int{2, 0}, [2]int{2, 1})},
		"nothing but T and I":       {[]api.Ev{{T: 1, I: 1, Kind: 2, Loc: 3, R: 9, W: 9}, {T: 1, I: 0, Kind: 99, Loc: -1, W: most}}, relOf(2, [2]int{1, 0})},
		"of fences and no kinds":    {[]api.Ev{{I: 0, Kind: 3}, {I: 1, Kind: 0}, {I: 2, Kind: -7}}, relOf(3, [2]int{0, 1}, [2]int{0, 2}, [2]int{1, 2})},
		"one event many times":      {slices.Repeat([]api.Ev{{T: 1, I: 1, Kind: 1}}, 20), relOf(20)},
		"a beginning of many times": {append(slices.Repeat([]api.Ev{{T: -1}}, 2), api.Ev{}, api.Ev{}), relOf(4, [2]int{0, 2}, [2]int{0, 3}, [2]int{1, 2}, [2]int{1, 3})},
	} {
		if got := PO(x.evs); got != x.want {
			t.Errorf("%s: %v over %d, want %v over %d", name, got.Pairs(), got.N(), x.want.Pairs(), x.want.N())
		}
	}
}

func Test10_2PORoom(t *testing.T) {
	for _, n := range []int{0, 1, 2, 31, 32, 33, 62, 63, 64} {
		evs := row(2, make([]api.Ev, n)...)
		want := rel.New(n)
		for a := range n {
			for b := a + 1; b < n; b++ {
				want = want.Add(a, b)
			}
		}
		if got := PO(evs); got != want || got.N() != n {
			t.Errorf("%d events: %v over %d", n, got.Pairs(), got.N())
		}
		// Room that is spare counts for nothing.
		if got := PO(append(slices.Clone(evs), make([]api.Ev, 70)...)[:n]); got != want {
			t.Errorf("%d events with spare room: %v over %d", n, got.Pairs(), got.N())
		}
		if n > 0 {
			evs[n-1].T = -1
			want = rel.New(n)
			for a := range n - 1 {
				want = want.Add(n-1, a)
				for b := a + 1; b < n-1; b++ {
					want = want.Add(a, b)
				}
			}
			if got := PO(evs); got != want {
				t.Errorf("%d events, the last of the beginning: %v", n, got.Pairs())
			}
		}
	}
	for _, n := range []int{65, 66, 127, 128, 129, 256, 1 << 16, 1<<16 + 1, 1 << 20} {
		for _, k := range []int{0, -1} {
			if got := PO(row(k, make([]api.Ev, n)...)); got != rel.New(0) {
				t.Errorf("%d events: over %d, %v", n, got.N(), got.Pairs())
			}
		}
	}
}

// poOf is a second reckoning: it sorts the events of each thread by I and walks
// over them, those of the same I together.
func poOf(evs []api.Ev) rel.Rel {
	po := rel.New(len(evs))
	threads := map[int][]int{}
	for place, e := range evs {
		threads[max(e.T, -1)] = append(threads[max(e.T, -1)], place)
	}
	for k, places := range threads {
		if k == -1 {
			continue
		}
		for _, a := range threads[-1] {
			for _, b := range places {
				po = po.Add(a, b)
			}
		}
		slices.SortFunc(places, func(a, b int) int {
			switch {
			case evs[a].I < evs[b].I:
				return -1
			case evs[a].I > evs[b].I:
				return 1
			}
			return 0
		})
		for at, a := range places {
			for _, b := range places[at:] {
				if evs[a].I != evs[b].I {
					po = po.Add(a, b)
				}
			}
		}
	}
	return po
}

func Test10_2POOfAny(t *testing.T) {
	r := rand.New(rand.NewSource(103))
	odd := []int{math.MinInt, math.MinInt + 1, -2, -1, 0, 1, 2, 3, 64, 1 << 32, math.MaxInt - 1, math.MaxInt}
	for range 1500 {
		evs := make([]api.Ev, r.Intn(65))
		for i := range evs {
			evs[i] = api.Ev{T: r.Intn(6) - 1, I: r.Intn(12), Kind: r.Intn(8), Loc: r.Intn(4), R: r.Int63(), W: r.Int63()}
			if r.Intn(3) == 0 {
				evs[i].T = odd[r.Intn(len(odd))]
			}
			if r.Intn(3) == 0 {
				evs[i].I = odd[r.Intn(len(odd))]
			}
		}
		po := PO(evs)
		if want := poOf(evs); po != want {
			t.Fatalf("%v: %v, want %v", evs, po.Pairs(), want.Pairs())
		}
		if !po.Acyclic() || po.Closure() != po {
			t.Fatalf("%v: no order: %v", evs, po.Pairs())
		}
	}
}

// A whole program: what begins is ahead of all, and each thread goes one by one.
func Test10_2POOfPrograms(t *testing.T) {
	r := rand.New(rand.NewSource(104))
	for range 2000 {
		p := ready(t, anyTest(r))
		evs := Inits(p)
		begins := len(evs)
		starts := []int{begins}
		for k, list := range p.Threads {
			of, _, _ := Unfold(p, k, someValues(r, len(list)))
			evs = append(evs, of...)
			starts = append(starts, len(evs))
		}
		want := rel.New(len(evs))
		for k := range p.Threads {
			for b := starts[k]; b < starts[k+1]; b++ {
				for a := range begins {
					want = want.Add(a, b)
				}
				for a := starts[k]; a < b; a++ {
					want = want.Add(a, b)
				}
			}
		}
		if got := PO(evs); got != want {
			t.Fatalf("%v: %v, want %v", evs, got.Pairs(), want.Pairs())
		}
	}
}

func Test10_2Same(t *testing.T) {
	a := row(0, reads(0, 5), writes(1, 5), fences(), won(0, 5, 9), lost(1, 4))
	hold := func(a, b []api.Ev, want bool) {
		t.Helper()
		if Same(a, b) != want || Same(b, a) != want {
			t.Errorf("%v and %v: not %v", a, b, want)
		}
	}
	hold(nil, nil, true)
	hold(nil, []api.Ev{}, true)
	hold([]api.Ev{}, []api.Ev{}, true)
	hold(a[:0], nil, true)
	hold(a, a, true)
	hold(a, slices.Clone(a), true)
	hold(append(slices.Clone(a), api.Ev{T: 7})[:5], a, true)
	for n := range a {
		hold(a, a[:n], false)
		hold(a[:n], slices.Clone(a[:n]), true)
		hold(a, a[n+1:], false)
		hold(slices.Insert(slices.Clone(a), n, a[n]), a, false)
	}
	hold([]api.Ev{{}}, nil, false)
	hold([]api.Ev{{}}, []api.Ev{{}, {}}, false)
	hold([]api.Ev{{}}, []api.Ev{{}}, true)
	// The order counts, and each field of each event.
	back := slices.Clone(a)
	slices.Reverse(back)
	hold(a, back, false)
	for n := range a {
		for _, d := range []int{1, -1, 1 << 32, math.MinInt} {
			for field := range 6 {
				b := slices.Clone(a)
				e := &b[n]
				switch field {
				case 0:
					e.T += d
				case 1:
					e.I += d
				case 2:
					e.Kind += d
				case 3:
					e.Loc += d
				case 4:
					e.R += int64(d)
				case 5:
					e.W += int64(d)
				}
				hold(a, b, false)
				hold(b, slices.Clone(b), true)
			}
		}
	}
}

func Test10_2SameOfUnlikeLength(t *testing.T) {
	for _, n := range []int{0, 1, 2, 63, 64, 65, 1000} {
		for _, m := range []int{0, 1, 2, 63, 64, 65, 1000} {
			if Same(make([]api.Ev, n), make([]api.Ev, m)) != (n == m) {
				t.Error(n, m)
			}
		}
	}
}

// readsOf is the values that were read, one after the other.
func readsOf(evs []api.Ev) []int64 {
	var values []int64
	for _, e := range evs {
		if Reads(e) {
			values = append(values, e.R)
		}
	}
	return values
}

// W2 of threads: what is read is just what was handed in, in its order, and all
// of it where the thread asks for more.
func Test10_3ReadsAreWhatIsRead(t *testing.T) {
	r := rand.New(rand.NewSource(105))
	for range 10000 {
		p := ready(t, anyTest(r))
		for k, list := range p.Threads {
			values := someValues(r, r.Intn(len(list)+2))
			evs, end, more := Unfold(p, k, values)
			used := readsOf(evs)
			if len(used) > len(values) || !slices.Equal(used, values[:len(used)]) || more && len(used) != len(values) {
				t.Fatalf("thread %d of %v with %v: %v %v", k, p.Threads, values, evs, more)
			}
			i, ok := prog.Next(p, k, end)
			if ok != more || more && i.Kind != api.ILoad && i.Kind != api.ICas || !more && end.PC != len(list) {
				t.Fatalf("thread %d of %v with %v: at %v, %v", k, p.Threads, values, end, more)
			}
		}
	}
}

// What is not read changes nothing: neither values behind those that are read,
// nor other threads, nor what locations begin with.
func Test10_3HangsOnReadsAlone(t *testing.T) {
	r := rand.New(rand.NewSource(106))
	for range 10000 {
		test := anyTest(r)
		// Each location is named, so that its place stays when others go.
		test.Cond = api.Cond{Kind: api.CExists, Any: [][]api.Atom{{{Thread: -1, Loc: 'a'}, {Thread: -1, Loc: 'w'}, {Thread: -1, Loc: 'x'}, {Thread: -1, Loc: 'z'}}}}
		p := ready(t, test)
		k := r.Intn(len(test.Threads))
		values := someValues(r, r.Intn(8))
		evs, end, more := Unfold(p, k, values)

		holdUnfold(t, p, k, values, evs, end, more)
		used := len(readsOf(evs))
		if !more {
			holdUnfold(t, p, k, values[:used], evs, end, false)
			holdUnfold(t, p, k, append(slices.Clone(values[:used]), someValues(r, r.Intn(4))...), evs, end, false)
		}
		other := anyTest(r)
		other.Cond = test.Cond
		other.Threads = append(other.Threads[:min(k, len(other.Threads))], slices.Repeat([][]api.Ins{nil}, max(k-len(other.Threads), 0))...)
		other.Threads = append(other.Threads, test.Threads[k])
		holdUnfold(t, ready(t, other), k, values, evs, end, more)
	}
}

// Two rows of values that begin alike lead to events that begin alike: up to
// the read of the first value that is another one.
func Test10_3BeginsAlike(t *testing.T) {
	r := rand.New(rand.NewSource(107))
	for range 10000 {
		p := ready(t, anyTest(r))
		k := r.Intn(len(p.Threads))
		values := someValues(r, 8)
		whole, _, more := Unfold(p, k, values)
		if more {
			t.Fatal("8 values are too few:", p.Threads[k])
		}
		asked := len(readsOf(whole))
		for n := range 9 {
			evs, _, more := Unfold(p, k, values[:n])
			if more != (n < asked) {
				t.Fatalf("%d of %d values: more %v", n, asked, more)
			}
			if len(evs) > len(whole) || !Same(evs, whole[:len(evs)]) {
				t.Fatalf("with %v: %v, with %v: %v", values[:n], evs, values, whole)
			}
			if more && !Reads(whole[len(evs)]) {
				t.Fatalf("with %v: stops ahead of %v", values[:n], whole[len(evs)])
			}
			others := append(slices.Clone(values[:n]), someValues(r, 8-n)...)
			got, _, _ := Unfold(p, k, others)
			if len(got) < len(evs) || !Same(got[:len(evs)], evs) {
				t.Fatalf("with %v: %v, with %v: %v", values[:n], evs, others, got)
			}
		}
	}
}

// Programs that Compile did not make: the answers are free, but there are some.
func Test10_4AnyProg(t *testing.T) {
	r := rand.New(rand.NewSource(108))
	odd := []int{math.MinInt, math.MinInt + 1, -256, -4, -2, -1, 0, 1, 2, 3, 4, 5, 6, 7, 11, 12, 'a', 1 << 32, math.MaxInt - 1, math.MaxInt}
	any := func() int { return odd[r.Intn(len(odd))] }
	operand := func() api.Operand { return api.Operand{Reg: any(), Value: int64(any())} }
	for range 30000 {
		p := api.Prog{Locs: make([]byte, r.Intn(70)), Init: someValues(r, r.Intn(70))}
		for range r.Intn(6) {
			list := make([]api.Ins, r.Intn(5))
			for at := range list {
				list[at] = api.Ins{Kind: any(), Reg: any(), Loc: any(), A: operand(), Op: any(), B: operand(), N: any()}
				if r.Intn(3) > 0 {
					list[at].Kind = 1 + r.Intn(6)
				}
			}
			p.Threads = append(p.Threads, list)
		}
		for _, k := range []int{any(), 0, 1, 2, 5} {
			evs, end, more := Unfold(p, k, someValues(r, r.Intn(6)))
			if (k < 0 || k >= len(p.Threads)) && (len(evs) > 0 || end != api.Local{} || more) {
				t.Fatal(k, evs, end, more)
			}
			for _, e := range evs {
				Reads(e)
				Writes(e)
				Fences(e)
			}
			PO(append(Inits(p), evs...))
			Same(evs, Inits(p))
		}
	}
}

func Test10_4InitShorterAndLonger(t *testing.T) {
	for locs := range 70 {
		for _, numbers := range []int{0, 1, 2, locs - 1, locs, locs + 1, 99} {
			Inits(api.Prog{Locs: make([]byte, locs), Init: make([]int64, max(numbers, 0))})
		}
	}
	if got := Inits(api.Prog{}); len(got) != 0 {
		t.Error(got)
	}
}

func Test10_4EndsOnGreatInputs(t *testing.T) {
	const many = 200_000
	load := api.Ins{Kind: api.ILoad, Reg: 1}
	skip := api.Ins{Kind: api.ISkip, A: number(1), B: number(1), N: -1}
	p := api.Prog{Locs: make([]byte, many), Threads: [][]api.Ins{slices.Repeat([]api.Ins{load}, many), slices.Repeat([]api.Ins{skip}, many)}}
	evs, end, more := Unfold(p, 0, make([]int64, many))
	if len(evs) != many || end.PC != many || more {
		t.Error(len(evs), end, more)
	}
	Unfold(p, 0, make([]int64, many-1))
	Unfold(p, 1, nil)
	inits := Inits(p)
	if PO(evs).N() != 0 || PO(inits).N() != 0 || Same(evs, inits) || !Same(evs, slices.Clone(evs)) {
		t.Error("great rows")
	}
}

// Rule 3: nothing that is handed in is changed, nor the room behind it.
func Test10_4LeavesWhatItIsGiven(t *testing.T) {
	body := "init { y = 1 ; q = 2 ; } thread { store x 1 ; r0 = load y ; r1 = cas x r0 r0 ; fence ; } thread { fence ; r0 = load x ; }"
	p, values := compile(t, body), []int64{5, 6, 7, 8, 9}
	short := p
	short.Locs, short.Init, short.Threads = p.Locs[:2], p.Init[:2], [][]api.Ins{p.Threads[0][:3], p.Threads[1][:1]}
	for k := -1; k < 3; k++ {
		for n := range values {
			Unfold(p, k, values[:n])
			Unfold(short, k, values[:n])
		}
	}
	Inits(p)
	Inits(short)
	if !reflect.DeepEqual(p, compile(t, body)) {
		t.Error("a program is changed:", p)
	}
	if !slices.Equal(values, []int64{5, 6, 7, 8, 9}) {
		t.Error("values are changed:", values)
	}
	holdUnfold(t, short, 1, values, row(1, fences()), at(1), false)
	if got, want := Inits(short), begins(2, 0); !slices.Equal(got, want) {
		t.Error("spare room counts:", got)
	}

	whole := func() []api.Ev {
		return []api.Ev{{T: 1, I: 3, Kind: 4, Loc: 2, R: 7, W: 8}, {T: -1, I: 1}, {T: 0, I: -5}, {T: 1, I: 3}, {T: 9, I: 9, W: 9}}
	}
	evs, other := whole(), whole()
	for n := range evs {
		PO(evs[:n])
		Same(evs[:n], other[:n])
		Same(evs, other[:n])
		Same(evs[n:], other)
		for _, e := range evs {
			Reads(e)
			Writes(e)
			Fences(e)
		}
	}
	if !slices.Equal(evs, whole()) || !slices.Equal(other, whole()) {
		t.Error("events are changed:", evs, other)
	}
}

// Rule 3: an answer is new memory, its spare room too, and nothing is kept.
func Test10_4AnswersAreNew(t *testing.T) {
	body := "init { y = 1 ; } thread { store x 1 ; r0 = load y ; fence ; } thread { r0 = load x ; }"
	p, values := compile(t, body), []int64{5, 6}
	first, _, _ := Unfold(p, 0, values)
	inits := Inits(p)
	spoil := func(evs []api.Ev) {
		for i := range evs[:cap(evs)] {
			evs[:cap(evs)][i] = api.Ev{T: 8, I: 8, Kind: 8, Loc: 8, R: 8, W: 8}
		}
	}
	again, _, _ := Unfold(p, 0, values)
	spoil(again)
	more := Inits(p)
	spoil(more)
	if !slices.Equal(first, row(0, writes(0, 1), reads(1, 5), fences())) || !slices.Equal(inits, begins(0, 1)) {
		t.Error("answers share memory:", first, inits)
	}
	holdUnfold(t, p, 0, values, first, at(3, 5), false)
	if !slices.Equal(Inits(p), inits) || !reflect.DeepEqual(p, compile(t, body)) {
		t.Error("an answer shares memory with a program:", p)
	}
	// What was handed in may go on changing.
	values[0] = 77
	p.Init[1] = 78
	if first[1].R != 5 || inits[1].W != 1 {
		t.Error("what was handed in is kept:", first, inits)
	}
	holdUnfold(t, p, 0, values, row(0, writes(0, 1), reads(1, 77), fences()), at(3, 77), false)
	if got := Inits(p); got[1].W != 78 {
		t.Error("what was handed in earlier is kept:", got)
	}
}
