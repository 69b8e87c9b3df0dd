package vm

import (
	"maps"
	"math"
	"math/rand"
	"slices"
	"strings"
	"testing"

	"jacquard/allow"
	"jacquard/api"
	"jacquard/final"
	"jacquard/prog"
	"jacquard/set"
)

const most, least = math.MaxInt64, math.MinInt64

// bodies are small tests of one to four threads, with each kind of instruction.
var bodies = []string{
	"thread { }",
	"thread { r0 = 1 ; } thread { }",
	"init { x = 7 ; y = -7 ; } thread { } exists z = 1 ;",
	"thread { fence ; } thread { fence ; fence ; }",
	"thread { store x 1 ; r0 = load x ; }",
	"thread { store x 1 ; store x 2 ; store y 3 ; store x 4 ; fence ; r0 = load x ; r1 = load y ; }",
	"thread { store x 1 ; r0 = load y ; } thread { store y 1 ; r0 = load x ; }",
	"thread { store x 1 ; fence ; r0 = load y ; } thread { store y 1 ; r0 = load x ; }",
	"thread { store x 1 ; store y 1 ; } thread { r0 = load y ; r1 = load x ; }",
	"thread { store x 1 ; store y 2 ; } thread { store y 1 ; store x 2 ; }",
	"thread { store x 1 ; r0 = load x ; r1 = load y ; } thread { store y 1 ; store x 2 ; }",
	"thread { store x 1 ; store x 2 ; r0 = load x ; r1 = load x ; } thread { store x 3 ; r0 = load x ; }",
	"thread { r0 = cas x 0 1 ; } thread { r0 = cas x 0 2 ; } thread { r0 = cas x 1 3 ; }",
	"thread { store x 1 ; r1 = cas z 0 0 ; r0 = load y ; } thread { store y 1 ; r1 = cas z 0 0 ; r0 = load x ; }",
	"init { x = 4 ; } thread { r0 = cas x 4 6 ; store x 6 ; } thread { r0 = cas x 6 5 ; r1 = cas x r0 r0 ; }",
	"thread { r0 = load x ; r0 = r0 + 1 ; store x r0 ; } thread { r0 = load x ; r0 = r0 + 1 ; store x r0 ; }",
	"thread { r0 = load x ; skip 1 if r0 == 0 ; store y 1 ; fence ; r1 = load y ; } thread { store x 1 ; r0 = load y ; }",
	"thread { r0 = load x ; skip 2 if r0 == 1 ; store y 1 ; fence ; } thread { store x 1 ; skip 1 if 0 == 0 ; fence ; }",
	"thread { r0 = 5 ; store x r0 ; r0 = load y ; store z r0 ; } thread { store y 9 ; r1 = load x ; }",
	"thread { store x 1 ; } thread { store x 2 ; } thread { r0 = load x ; r1 = load x ; }",
	"thread { store x 1 ; } thread { store y 1 ; } thread { store z 1 ; } thread { r0 = cas w 0 1 ; }",
	"thread { store w 1 ; store x 2 ; store y 3 ; store z 4 ; } thread { r0 = load z ; }",
	"thread { store x 1 ; fence ; } thread { } thread { } thread { store x 2 ; r1 = cas x 1 3 ; }",
	"init { x = 9223372036854775807 ; y = -9223372036854775808 ; } thread { r0 = load x ; r0 = r0 + 1 ; store y r0 ; } thread { r0 = cas y -9223372036854775808 9223372036854775807 ; }",
}

func Test16_1Models(t *testing.T) {
	for _, body := range bodies {
		p := compile(t, body)
		for _, m := range odd {
			v, code := New(p, m)
			if slices.Contains(models, m) {
				if v == nil || code != api.OK {
					t.Errorf("%q, model %d: %v", body, m, code)
				}
			} else if v != nil || code != api.ErrArg {
				t.Errorf("%q, model %d, which is none: %v %v", body, m, v, code)
			}
		}
	}
}

// Where a machine stands ahead of all picks: memory has Init, threads are at their
// first instruction that memory knows of, nothing waits and nothing was done.
func Test16_1AtTheBeginning(t *testing.T) {
	for _, x := range []struct {
		body    string
		want    api.Final
		enabled set.Set
	}{
		{"thread { }", api.Final{}, 0},
		{"thread { fence ; } thread { store x 1 ; }", api.Final{}, set.Of(0, 1)},
		{"thread { } thread { fence ; } thread { } thread { r0 = cas x 0 1 ; }", api.Final{}, set.Of(1, 3)},
		{"init { x = 5 ; } thread { r0 = load x ; }", api.Final{Mem: [4]int64{5}}, set.Of(0)},
		{"init { z = 1 ; a = -2 ; y = 9223372036854775807 ; b = -9223372036854775808 ; } thread { store z 5 ; }", api.Final{Mem: [4]int64{-2, least, most, 1}}, set.Of(0)},
		{"init { z = 3 ; } thread { store y 5 ; } exists x = 1 ;", api.Final{Mem: [4]int64{0, 0, 3}}, set.Of(0)},
		{"thread { r0 = 1 ; r3 = r0 + 6 ; }", api.Final{Regs: [4][4]int64{{1, 0, 0, 7}}}, 0},
		{"thread { } thread { } thread { r1 = 4 ; store x r1 ; r1 = 5 ; } thread { skip 1 if 0 == 0 ; fence ; r2 = 8 ; }", api.Final{Regs: [4][4]int64{2: {0, 4}, 3: {0, 0, 8}}}, set.Of(2)},
		{"thread { skip 2 if 3 == 3 ; store x 1 ; fence ; } thread { skip 2 if 3 == 4 ; store x 1 ; fence ; }", api.Final{}, set.Of(1)},
		{"thread { skip 1 if 3 == 3 ; store x 1 ; fence ; }", api.Final{}, set.Of(0)},
	} {
		for _, m := range models {
			v := machine(t, compile(t, x.body), m)
			if v.Final() != x.want || v.Enabled() != x.enabled || v.Done() != (x.enabled == 0) || len(v.Steps()) != 0 {
				t.Errorf("%q, model %d: %v, Enabled %v, Done %v, %v", x.body, m, v.Final(), v.Enabled().List(), v.Done(), v.Steps())
			}
		}
	}
}

// made tells if p is a program that Compile could give, as 4.1, 5.1 and 6.1 say it.
func made(p api.Prog) bool {
	if len(p.Threads) < 1 || len(p.Threads) > 4 || len(p.Locs) > 4 || len(p.Init) != len(p.Locs) {
		return false
	}
	for at, letter := range p.Locs {
		if letter < 'a' || letter > 'z' || at > 0 && letter <= p.Locs[at-1] {
			return false
		}
	}
	all := 0
	for _, list := range p.Threads {
		if all += len(list); len(list) > 10 || all > 24 {
			return false
		}
		for at, i := range list {
			if !madeIns(i, len(p.Locs), len(list)-at-1) {
				return false
			}
		}
	}
	return true
}

func madeIns(i api.Ins, locs, left int) bool {
	loc := i.Loc >= 0 && i.Loc < locs
	reg := i.Reg >= 0 && i.Reg <= 3
	operand := func(o api.Operand) bool { return o.Reg == -1 || o.Reg >= 0 && o.Reg <= 3 && o.Value == 0 }
	a, b := operand(i.A), operand(i.B)
	switch i.Kind {
	case api.IStore:
		return loc && a && i == api.Ins{Kind: 1, Loc: i.Loc, A: i.A}
	case api.ILoad:
		return reg && loc && i == api.Ins{Kind: 2, Reg: i.Reg, Loc: i.Loc}
	case api.IFence:
		return i == api.Ins{Kind: 3}
	case api.ICas:
		return reg && loc && a && b && i == api.Ins{Kind: 4, Reg: i.Reg, Loc: i.Loc, A: i.A, B: i.B}
	case api.ISet:
		if i.Op == 0 {
			b = i.B == number(0)
		}
		return reg && a && b && i.Op >= 0 && i.Op <= 11 && i == api.Ins{Kind: 5, Reg: i.Reg, A: i.A, Op: i.Op, B: i.B}
	case api.ISkip:
		return a && b && i.N >= 1 && i.N <= left && i == api.Ins{Kind: 6, A: i.A, B: i.B, N: i.N}
	}
	return false
}

// holdMade holds New of each model to take p just if Compile could give it.
func holdMade(t *testing.T, p api.Prog) bool {
	t.Helper()
	want := made(p)
	for _, m := range models {
		v, code := New(p, m)
		if want && (v == nil || code != api.OK) || !want && (v != nil || code != api.ErrArg) {
			t.Fatalf("%v, model %d: %v, could be given: %v", p, m, code, want)
		}
		if want {
			hold(t, v, newPlain(p, m))
		}
	}
	return want
}

// thread is a program of one thread over locs, of the letters w, x, y and z.
func thread(locs int, list ...api.Ins) api.Prog {
	return api.Prog{Locs: []byte("wxyz")[:locs], Init: make([]int64, locs), Threads: [][]api.Ins{list}}
}

// lists is a program of threads that have so many fences.
func lists(lengths ...int) api.Prog {
	var p api.Prog
	for _, n := range lengths {
		p.Threads = append(p.Threads, slices.Repeat([]api.Ins{{Kind: api.IFence}}, n))
	}
	return p
}

// Threads, locations and Init at their bounds and beyond.
func Test16_1Bounds(t *testing.T) {
	fences := lists(2).Threads
	over := func(locs string, inits int) api.Prog {
		return api.Prog{Locs: []byte(locs), Init: make([]int64, inits), Threads: fences}
	}
	for _, x := range []struct {
		p    api.Prog
		want bool
	}{
		{api.Prog{}, false},
		{api.Prog{Locs: []byte("x"), Init: []int64{1}}, false},
		{api.Prog{Threads: [][]api.Ins{}}, false},
		{api.Prog{Threads: [][]api.Ins{nil}}, true},
		{api.Prog{Locs: []byte{}, Init: []int64{}, Threads: [][]api.Ins{{}}}, true},
		{lists(0), true},
		{lists(0, 0, 0, 0), true},
		{lists(0, 0, 0, 0, 0), false},
		{lists(1, 1, 1, 1, 0), false},
		{lists(10), true},
		{lists(11), false},
		{lists(0, 11), false},
		{lists(0, 0, 0, 10), true},
		{lists(0, 0, 0, 11), false},
		{lists(10, 10, 4), true},
		{lists(10, 10, 5), false},
		{lists(6, 6, 6, 6), true},
		{lists(6, 6, 6, 7), false},
		{lists(10, 10, 10, 10), false},
		{over("", 0), true},
		{over("", 1), false},
		{over("x", 0), false},
		{over("x", 1), true},
		{over("x", 2), false},
		{over("xy", 1), false},
		{over("abcd", 4), true},
		{over("abcd", 3), false},
		{over("abcd", 5), false},
		{over("wxyz", 4), true},
		{over("abcde", 5), false},
		{over("abcde", 4), false},
		{over("ba", 2), false},
		{over("aa", 2), false},
		{over("abb", 3), false},
		{over("acb", 3), false},
		{over("az", 2), true},
		{over("A", 1), false},
		{over("`", 1), false},
		{over("{", 1), false},
		{over("\x00", 1), false},
		{over("\xe1", 1), false},
		{over("0", 1), false},
		{over("a{", 2), false},
		{over("Ab", 2), false},
	} {
		if holdMade(t, x.p) != x.want {
			t.Errorf("%q %v %v: want %v", x.p.Locs, x.p.Init, x.p.Threads, x.want)
		}
	}
	for letter := range 256 {
		if p := over(string([]byte{byte(letter)}), 1); holdMade(t, p) != (letter >= 'a' && letter <= 'z') {
			t.Errorf("location %d", letter)
		}
	}
}

// One instruction that is none, or that leads nowhere; and its like that is one.
func Test16_1Instructions(t *testing.T) {
	f, n, none := api.Ins{Kind: api.IFence}, number(7), number(0)
	skip := func(n int) api.Ins { return api.Ins{Kind: api.ISkip, A: none, B: none, N: n} }
	for _, x := range []struct {
		p    api.Prog
		want bool
	}{
		{thread(1, api.Ins{}), false},
		{thread(1, api.Ins{Kind: 7}), false},
		{thread(1, api.Ins{Kind: -1}), false},
		{thread(1, api.Ins{Kind: api.IStore, A: n}), true},
		{thread(0, api.Ins{Kind: api.IStore, A: n}), false},
		{thread(1, api.Ins{Kind: api.IStore, Loc: 1, A: n}), false},
		{thread(1, api.Ins{Kind: api.IStore, Loc: -1, A: n}), false},
		{thread(4, api.Ins{Kind: api.IStore, Loc: 3, A: n}), true},
		{thread(4, api.Ins{Kind: api.IStore, Loc: 4, A: n}), false},
		{thread(4, api.Ins{Kind: api.IStore, Loc: 'w', A: n}), false},
		{thread(1, api.Ins{Kind: api.IStore, A: register(3)}), true},
		{thread(1, api.Ins{Kind: api.IStore, A: register(4)}), false},
		{thread(1, api.Ins{Kind: api.IStore, A: register(-2)}), false},
		{thread(1, api.Ins{Kind: api.IStore, A: api.Operand{Reg: 1, Value: 1}}), false},
		{thread(1, api.Ins{Kind: api.IStore, A: n, B: none}), false},
		{thread(1, api.Ins{Kind: api.IStore, A: n, Reg: 1}), false},
		{thread(1, api.Ins{Kind: api.IStore, A: n, Op: 1}), false},
		{thread(1, api.Ins{Kind: api.IStore, A: n, N: 1}), false},
		{thread(2, api.Ins{Kind: api.ILoad, Reg: 3, Loc: 1}), true},
		{thread(2, api.Ins{Kind: api.ILoad, Reg: 4, Loc: 1}), false},
		{thread(2, api.Ins{Kind: api.ILoad, Reg: -1, Loc: 1}), false},
		{thread(2, api.Ins{Kind: api.ILoad, Loc: 2}), false},
		{thread(2, api.Ins{Kind: api.ILoad, A: none}), false},
		{thread(2, f), true},
		{thread(2, api.Ins{Kind: api.IFence, Loc: 1}), false},
		{thread(2, api.Ins{Kind: api.IFence, A: none}), false},
		{thread(2, api.Ins{Kind: api.ICas, Reg: 3, Loc: 1, A: n, B: register(3)}), true},
		{thread(2, api.Ins{Kind: api.ICas, Reg: 3, Loc: 2, A: n, B: n}), false},
		{thread(2, api.Ins{Kind: api.ICas, Reg: 4, Loc: 1, A: n, B: n}), false},
		{thread(2, api.Ins{Kind: api.ICas, Reg: 3, Loc: 1, A: n, B: register(4)}), false},
		{thread(0, api.Ins{Kind: api.ISet, A: n, B: none}), true},
		{thread(0, api.Ins{Kind: api.ISet, A: n}), false},
		{thread(0, api.Ins{Kind: api.ISet, A: n, B: n}), false},
		{thread(0, api.Ins{Kind: api.ISet, A: n, Op: 11, B: n}), true},
		{thread(0, api.Ins{Kind: api.ISet, A: n, Op: 12, B: n}), false},
		{thread(0, api.Ins{Kind: api.ISet, A: n, Op: -1, B: none}), false},
		{thread(0, api.Ins{Kind: api.ISet, Reg: 4, A: n, B: none}), false},
		{thread(1, api.Ins{Kind: api.ISet, Loc: 'w', A: n, B: none}), false},
		{thread(0, skip(0), f), false},
		{thread(0, skip(1), f), true},
		{thread(0, skip(1)), false},
		{thread(0, skip(2), f), false},
		{thread(0, skip(2), f, f), true},
		{thread(0, f, skip(2), f), false},
		{thread(0, skip(-1), f), false},
		{thread(0, skip(most), f), false},
		{thread(0, api.Ins{Kind: api.ISkip, N: 1, A: none, B: register(4)}, f), false},
	} {
		if holdMade(t, x.p) != x.want {
			t.Errorf("%v: want %v", x.p, x.want)
		}
	}
}

// cloned shares no memory with p.
func cloned(p api.Prog) api.Prog {
	q := api.Prog{Locs: slices.Clone(p.Locs), Init: slices.Clone(p.Init)}
	for _, list := range p.Threads {
		q.Threads = append(q.Threads, slices.Clone(list))
	}
	return q
}

// spoilt is p with one thing changed to an odd number, or one more or one less.
func spoilt(r *rand.Rand, p api.Prog) api.Prog {
	q := cloned(p)
	n := odd[r.Intn(len(odd))]
	if r.Intn(2) == 0 {
		n = r.Intn(8) - 2
	}
	k := r.Intn(len(q.Threads))
	list := q.Threads[k]
	switch kind := r.Intn(16); {
	case kind == 0 && len(q.Locs) > 0:
		q.Locs[r.Intn(len(q.Locs))] = byte(n)
	case kind == 1 && len(q.Locs) > 0:
		q.Locs = q.Locs[:len(q.Locs)-1]
	case kind == 2:
		q.Init = append(q.Init, int64(n))
	case kind == 3:
		q.Threads = append(q.Threads, list)
	case kind == 4:
		q.Threads[k] = append(list, list...)
	case len(list) > 0:
		i := &list[r.Intn(len(list))]
		fields := []*int{&i.Kind, &i.Reg, &i.Loc, &i.A.Reg, &i.Op, &i.B.Reg, &i.N}
		values := []*int64{&i.A.Value, &i.B.Value}
		if at := r.Intn(len(fields) + len(values)); at < len(fields) {
			*fields[at] = n
		} else {
			*values[at-len(fields)] = int64(n)
		}
	}
	return q
}

// Any program, and each with something changed: machines are made of those that
// Compile could give, and of no others.
func Test16_1OfAny(t *testing.T) {
	r := rand.New(rand.NewSource(161))
	good, bad := 0, 0
	for range 2000 {
		p := ready(t, anyTest(r, 4, 10))
		if !holdMade(t, p) {
			t.Fatal(p)
		}
		for range 10 {
			if holdMade(t, spoilt(r, p)) {
				good++
			} else {
				bad++
			}
		}
	}
	if good < 2000 || bad < 8000 {
		t.Error(good, bad)
	}
}

// path is what a pick tells, as it stands on paper; empty where it is not
// enabled.
type path struct {
	pick int
	want string
}

// follow picks a path and holds each step, and the machine between them, against
// what is wanted.
func follow(t *testing.T, body string, m int, row []path) *VM {
	t.Helper()
	p := compile(t, body)
	v, w := machine(t, p, m), newPlain(p, m)
	for at, x := range row {
		if got := v.Enabled().Has(x.pick); got != (x.want != "") {
			t.Fatalf("%q, model %d: pick %d of place %d, Enabled: %v", body, m, x.pick, at, got)
		}
		s, ok := v.Pick(x.pick)
		if ok != (x.want != "") || ok && told(s) != x.want || !ok && s != (api.Step{}) {
			t.Fatalf("%q, model %d: pick %d of place %d: %s %v, want %s", body, m, x.pick, at, told(s), ok, x.want)
		}
		if ok {
			w.pick(x.pick)
		}
		hold(t, v, w)
	}
	return v
}

// The fields of each kind of step: Pick, T, Kind, Loc, R, W, From.
func Test16_2EachKindMSC(t *testing.T) {
	follow(t, "init { y = 9 ; } thread { store x 1 ; r0 = load x ; r1 = load y ; fence ; r2 = cas x 1 5 ; r3 = cas x 1 6 ; store y r2 ; } thread { r0 = load x ; r1 = load y ; r2 = cas y 1 7 ; }", api.MSC, []path{
		{2, ""}, {4, ""}, {8, ""},
		{0, "0:0 2 0 0 1 -1"},
		{4, ""}, {8, ""},
		{1, "1:1 1 0 1 0 0"},
		{0, "0:0 1 0 1 0 0"},
		{0, "0:0 1 1 9 0 -1"},
		{0, "0:0 3 0 0 0 -1"},
		{0, "0:0 4 0 1 5 0"},
		{1, "1:1 1 1 9 0 -1"},
		{0, "0:0 5 0 5 0 5"},
		{0, "0:0 2 1 0 1 -1"},
		{0, ""},
		{1, "1:1 4 1 1 7 8"},
		{1, ""},
	})
}

// With MTSO what waits comes to memory in one row, whatever its location; others
// see it only then.
func Test16_2OneRowMTSO(t *testing.T) {
	follow(t, "thread { store y 1 ; store x 2 ; store y 3 ; } thread { r0 = load y ; r1 = load x ; r2 = load y ; }", api.MTSO, []path{
		{4, ""}, {5, ""}, {8, ""}, {9, ""},
		{0, "0:0 2 1 0 1 -1"},
		{5, ""}, {6, ""}, {8, ""}, {9, ""},
		{0, "0:0 2 0 0 2 -1"},
		{0, "0:0 2 1 0 3 -1"},
		{0, ""},
		{1, "1:1 1 1 0 0 -1"},
		{4, "4:0 6 1 0 1 0"},
		{4, "4:0 6 0 0 2 1"},
		{1, "1:1 1 0 2 0 1"},
		{1, "1:1 1 1 1 0 0"},
		{1, ""},
		{4, "4:0 6 1 0 3 2"},
		{4, ""},
	})
}

// With MPSO what waits of one location passes what waits of another, and none of
// its own.
func Test16_2RowsOfLocationsMPSO(t *testing.T) {
	follow(t, "thread { store y 1 ; store x 2 ; store y 3 ; } thread { r0 = load y ; r1 = load x ; r2 = load y ; store y 4 ; }", api.MPSO, []path{
		{8, ""}, {9, ""}, {12, ""},
		{0, "0:0 2 1 0 1 -1"},
		{4, ""}, {8, ""}, {10, ""}, {13, ""},
		{0, "0:0 2 0 0 2 -1"},
		{0, "0:0 2 1 0 3 -1"},
		{9, "9:0 6 1 0 1 0"},
		{1, "1:1 1 1 1 0 0"},
		{1, "1:1 1 0 0 0 -1"},
		{9, "9:0 6 1 0 3 2"},
		{9, ""},
		{1, "1:1 1 1 3 0 2"},
		{1, "1:1 2 1 0 4 -1"},
		{12, ""}, {5, ""},
		{13, "13:1 6 1 0 4 8"},
		{8, "8:0 6 0 0 2 1"},
		{8, ""}, {13, ""},
	})
}

// A load sees the newest store of its own thread that waits, be it to its location,
// and none that waits of another thread.
func Test16_2LoadsOfWhatWaits(t *testing.T) {
	body := "init { x = 8 ; y = 9 ; } thread { store x 1 ; store x 2 ; store y 3 ; r0 = load x ; r1 = load y ; r2 = load x ; r3 = load z ; } thread { r0 = load x ; store x 4 ; r1 = load x ; r2 = load y ; }"
	for m, flush := range map[int]int{api.MTSO: 4, api.MPSO: 8} {
		f := string(rune('0' + flush))
		follow(t, body, m, []path{
			{0, "0:0 2 0 0 1 -1"},
			{0, "0:0 2 0 0 2 -1"},
			{0, "0:0 2 1 0 3 -1"},
			{1, "1:1 1 0 8 0 -1"},
			{0, "0:0 1 0 2 0 1"},
			{0, "0:0 1 1 3 0 2"},
			{flush, f + ":0 6 0 0 1 0"},
			{1, "1:1 2 0 0 4 -1"},
			{0, "0:0 1 0 2 0 1"},
			{1, "1:1 1 0 4 0 7"},
			{1, "1:1 1 1 9 0 -1"},
			{flush, f + ":0 6 0 0 2 1"},
			{0, "0:0 1 2 0 0 -1"},
		})
	}
}

// A load of what came to memory tells the store, not the flush; and what a thread
// has brought to memory hides nothing that another one brought there later.
func Test16_2LoadsOfWhatCameToMemory(t *testing.T) {
	body := "thread { store x 1 ; r0 = load x ; r1 = load x ; } thread { store x 1 ; r0 = load x ; }"
	for m, flush := range map[int][2]int{api.MTSO: {4, 5}, api.MPSO: {8, 12}} {
		first, second := machine(t, compile(t, body), m), []string{
			"0:0 2 0 0 1 -1", "1:1 2 0 0 1 -1", "f:0 6 0 0 1 0", "0:0 1 0 1 0 0", "f:1 6 0 0 1 1", "0:0 1 0 1 0 1", "1:1 1 0 1 0 1"}
		for at, i := range []int{0, 1, flush[0], 0, flush[1], 0, 1} {
			s, ok := first.Pick(i)
			got := told(s)
			if i > 3 {
				_, got, _ = strings.Cut(got, ":")
				got = "f:" + got
			}
			if !ok || got != second[at] {
				t.Errorf("model %d, place %d: %s %v, want %s", m, at, got, ok, second[at])
			}
		}
		if !first.Done() {
			t.Error(m, first.Enabled().List())
		}
	}
}

// A fence and a cas wait for what their own thread has put into its Buf, be it to
// another location, and for nothing else.
func Test16_2FenceAndCasWait(t *testing.T) {
	for _, ins := range []string{"fence", "r0 = cas y 0 5", "r0 = cas x 0 5", "r0 = cas y 7 5"} {
		body := "thread { store x 1 ; store x 2 ; " + ins + " ; store y 4 ; } thread { store y 3 ; " + ins + " ; } thread { " + ins + " ; }"
		p := compile(t, body)
		for m, x := range map[int]struct{ first, second int }{api.MTSO: {4, 5}, api.MPSO: {8, 13}} {
			v, w := machine(t, p, m), newPlain(p, m)
			for at, step := range []struct {
				pick int
				want set.Set
			}{
				{-1, set.Of(0, 1, 2)},
				{0, set.Of(0, 1, 2, x.first)},
				{0, set.Of(1, 2, x.first)},
				{1, set.Of(2, x.first, x.second)},
				{x.second, set.Of(1, 2, x.first)},
				{x.first, set.Of(1, 2, x.first)},
				{2, set.Of(1, x.first)},
				{x.first, set.Of(0, 1)},
				{0, set.Of(0, 1)},
				{1, set.Of(0)},
			} {
				if step.pick >= 0 {
					both(t, v, w, step.pick)
				}
				if v.Enabled() != step.want {
					t.Fatalf("%q, model %d, place %d: Enabled %v, want %v", body, m, at, v.Enabled().List(), step.want.List())
				}
			}
		}
		v := follow(t, "thread { store x 1 ; "+ins+" ; }", api.MSC, []path{{0, "0:0 2 0 0 1 -1"}})
		if v.Enabled() != set.Of(0) {
			t.Error(ins, v.Enabled().List())
		}
	}
}

// A cas that finds what it asks for, and one that does not; of registers too.
func Test16_2Cas(t *testing.T) {
	for _, m := range models {
		v := follow(t, "init { x = 4 ; } thread { r0 = cas x 4 6 ; r1 = cas x r0 7 ; r2 = cas x 6 r1 ; r3 = cas x r3 r0 ; } thread { r0 = cas x 6 6 ; r0 = cas x 5 5 ; r0 = cas y 0 0 ; r1 = load y ; r1 = load x ; }", m, []path{
			{0, "0:0 4 0 4 6 -1"},
			{0, "0:0 5 0 6 0 0"},
			{1, "1:1 4 0 6 6 0"},
			{0, "0:0 4 0 6 6 2"},
			{0, "0:0 5 0 6 0 3"},
			{0, ""},
			{1, "1:1 5 0 6 0 3"},
			{1, "1:1 4 1 0 0 -1"},
			{1, "1:1 1 1 0 0 6"},
			{1, "1:1 1 0 6 0 3"},
		})
		if want := (api.Final{Regs: [4][4]int64{{4, 6, 6, 6}, {0, 6}}, Mem: [4]int64{6, 0}}); v.Final() != want || !v.Done() {
			t.Errorf("model %d: %v, want %v", m, v.Final(), want)
		}
		// What it compares with and writes is as it was ahead of it, also of the
		// register that it reads into.
		v = follow(t, "init { x = 3 ; } thread { r0 = 3 ; r0 = cas x r0 r0 ; r1 = 5 ; r1 = cas x 3 r1 ; r1 = cas x r1 9 ; }", m, []path{
			{0, "0:0 4 0 3 3 -1"},
			{0, "0:0 4 0 3 5 0"},
			{0, "0:0 5 0 5 0 1"},
		})
		if want := (api.Final{Regs: [4][4]int64{{3, 5}}, Mem: [4]int64{5}}); v.Final() != want || !v.Done() {
			t.Errorf("model %d: %v, want %v", m, v.Final(), want)
		}
	}
}

// A store has the number that its register held when it was done, not when it
// comes to memory.
func Test16_2StoreOfRegister(t *testing.T) {
	v := follow(t, "init { y = 5 ; } thread { r0 = 2 ; store x r0 ; r0 = load y ; store x r0 ; r0 = 7 ; }", api.MTSO, []path{
		{0, "0:0 2 0 0 2 -1"},
		{0, "0:0 1 1 5 0 -1"},
		{0, "0:0 2 0 0 5 -1"},
		{4, "4:0 6 0 0 2 0"},
		{4, "4:0 6 0 0 5 2"},
	})
	if want := (api.Final{Regs: [4][4]int64{{7}}, Mem: [4]int64{5, 5}}); v.Final() != want {
		t.Error(v.Final())
	}
}

// Skips that jump over all that is left: the thread is at its end, and what waits
// of it still comes to memory.
func Test16_2SkipToTheEnd(t *testing.T) {
	body := "thread { store x 1 ; r0 = load y ; skip 3 if r0 == 0 ; fence ; store y 2 ; r1 = cas x 1 3 ; } thread { skip 1 if 0 == 0 ; store y 1 ; }"
	for m, flush := range map[int]int{api.MSC: -1, api.MTSO: 4, api.MPSO: 8} {
		p := compile(t, body)
		v, w := machine(t, p, m), newPlain(p, m)
		hold(t, v, w)
		both(t, v, w, 0)
		both(t, v, w, 0)
		hold(t, v, w)
		if flush > 0 {
			if v.Enabled() != set.Of(flush) || v.Done() {
				t.Errorf("model %d: Enabled %v", m, v.Enabled().List())
			}
			both(t, v, w, flush)
			hold(t, v, w)
		}
		if !v.Done() || v.Final() != (api.Final{Mem: [4]int64{1}}) {
			t.Errorf("model %d: %v %v", m, v.Done(), v.Final())
		}
	}
}

// Picks of all threads and of all their locations.
func Test16_2AllPicks(t *testing.T) {
	all := "store w 1 ; store x 2 ; store y 3 ; store z 4 ; "
	p := compile(t, strings.Repeat("thread { "+all+"} ", 4))
	for m, want := range map[int]set.Set{
		api.MSC:  0,
		api.MTSO: set.Of(4, 5, 6, 7),
		api.MPSO: set.Upto(24) &^ set.Upto(8),
	} {
		v, w := machine(t, p, m), newPlain(p, m)
		for at := range 16 {
			both(t, v, w, at%4)
		}
		hold(t, v, w)
		if v.Enabled() != want {
			t.Errorf("model %d: Enabled %v", m, v.Enabled().List())
		}
		for _, i := range want.List() {
			both(t, v, w, i)
			hold(t, v, w)
		}
		if v.Done() != (m != api.MTSO) {
			t.Errorf("model %d: Done %v", m, v.Done())
		}
	}
}

// walked is what all rows of picks of a program came to.
type walked struct {
	rows, longest int
	ends          map[api.Final]int
}

// walk goes through all rows of picks from v on, w beside it. Each pick is done by
// a copy; and what a copy does is not told by the machine that it is of.
func (x *walked) walk(t *testing.T, v *VM, w *plain) {
	hold(t, v, w)
	for _, i := range w.enabled() {
		c, d := v.Copy(), w.copy()
		both(t, c, d, i)
		x.walk(t, c, d)
		holdTold(t, v, w)
	}
	if w.ended() {
		x.rows++
		x.longest = max(x.longest, len(w.steps))
		x.ends[w.final()]++
	}
}

func walkAll(t *testing.T, p api.Prog, m int) *walked {
	t.Helper()
	x := &walked{ends: map[api.Final]int{}}
	x.walk(t, machine(t, p, m), newPlain(p, m))
	return x
}

// Every row of picks of each small test, by each model, held against the plain
// machine. W4: each ends, at twice the Size at most. W3: they come to what may be
// by relations alone.
func Test16_4EveryRow(t *testing.T) {
	for _, body := range bodies {
		p := compile(t, body)
		for _, m := range models {
			x := walkAll(t, p, m)
			if x.rows == 0 || x.longest > 2*prog.Size(p) {
				t.Errorf("%q, model %d: %d rows, the longest has %d picks", body, m, x.rows, x.longest)
			}
			want, ok := allow.Finals(p, m)
			if got := final.Sort(slices.Collect(maps.Keys(x.ends))); !ok || !slices.Equal(got, want) {
				t.Errorf("%q, model %d: ends\n%v, want\n%v", body, m, got, want)
			}
		}
	}
}

// How many rows there are, by a reckoning on paper.
func Test16_4HowManyRows(t *testing.T) {
	rep := strings.Repeat
	for body, want := range map[string][3]int{
		"thread { }":                                                    {1, 1, 1},
		"thread { store x 1 ; }":                                        {1, 1, 1},
		"thread { r0 = load x ; r1 = load x ; }":                        {1, 1, 1},
		rep("thread { r0 = load x ; } ", 4):                             {24, 24, 24},
		"thread { fence ; fence ; fence ; } thread { fence ; fence ; }": {10, 10, 10},
		// Each store ahead of its flush, and flushes as the stores stand.
		"thread { " + rep("store x 1 ; ", 3) + "}": {1, 5, 5},
		"thread { " + rep("store x 1 ; ", 6) + "}": {1, 132, 132},
		// With MPSO each flush stands anywhere behind its store.
		"thread { store x 1 ; store y 1 ; store z 1 ; }":             {1, 5, 15},
		"thread { store w 1 ; store x 1 ; store y 1 ; store z 1 ; }": {1, 14, 105},
		// Two rows of two picks each, or of one.
		"thread { store x 1 ; } thread { store x 1 ; }":                             {2, 6, 6},
		"thread { store x 1 ; fence ; } thread { store x 1 ; r0 = cas y 0 0 ; }":    {6, 20, 20},
		"thread { store x 1 ; store x 1 ; r0 = load x ; } thread { }":               {1, 5, 5},
		"thread { store x 1 ; skip 1 if 0 == 0 ; store y 1 ; } thread { r0 = 1 ; }": {1, 1, 1},
	} {
		p := compile(t, body)
		for at, m := range models {
			if x := walkAll(t, p, m); x.rows != want[at] {
				t.Errorf("%q, model %d: %d rows, want %d", body, m, x.rows, want[at])
			}
		}
	}
}

// The rows that take twice the Size, and no row takes more: nothing but stores.
func Test16_4TwiceTheSize(t *testing.T) {
	rep := strings.Repeat
	r := rand.New(rand.NewSource(164))
	for _, body := range []string{
		"thread { store x 1 ; }",
		"thread { " + rep("store x 1 ; ", 10) + "}",
		rep("thread { "+rep("store x 1 ; ", 6)+"} ", 4),
		rep("thread { "+rep("store x 1 ; ", 10)+"} ", 2) + "thread { store w 2 ; store x 3 ; store y 4 ; store z 5 ; }",
		rep("thread { store z 1 ; store x 1 ; store y 1 ; store z 2 ; store w 3 ; store w 1 ; } ", 4),
	} {
		p := compile(t, body)
		for _, m := range models {
			want := 2 * prog.Size(p)
			if m == api.MSC {
				want /= 2
			}
			// First all stores and then all flushes, the other way round, and any row.
			for row := range 20 {
				v, w := machine(t, p, m), newPlain(p, m)
				for l := w.enabled(); len(l) > 0; l = w.enabled() {
					hold(t, v, w)
					both(t, v, w, []int{l[0], l[len(l)-1], l[r.Intn(len(l))]}[min(row, 2)])
				}
				hold(t, v, w)
				if !v.Done() || len(v.Steps()) != want {
					t.Errorf("%q, model %d: Done %v after %d picks, want %d", body, m, v.Done(), len(v.Steps()), want)
				}
			}
		}
	}
}

// Any rows of picks of any programs, up to the greatest ones; at any place a copy
// goes on by itself.
func Test16_4AnyRow(t *testing.T) {
	r := rand.New(rand.NewSource(165))
	kinds, longest := map[int]int{}, 0
	for round := range 3000 {
		p := ready(t, anyTest(r, 4, 10))
		m := models[round%3]
		v, w := machine(t, p, m), newPlain(p, m)
		toEnd(t, r, v, w, 3)
		if n := len(w.steps); n > 2*prog.Size(p) {
			t.Fatalf("%v, model %d: %d picks", p, m, n)
		}
		longest = max(longest, len(w.steps))
		for _, s := range w.steps {
			kinds[s.Kind]++
		}
		// The same picks, one by one from the beginning.
		again := machine(t, p, m)
		for _, s := range w.steps {
			again.Pick(s.Pick)
		}
		holdTold(t, again, w)
	}
	if longest < 30 || len(kinds) != 6 || kinds[api.EWon] < 500 || kinds[api.ELost] < 500 || kinds[api.EFlush] < 5000 {
		t.Error(longest, kinds)
	}
}

// toEnd picks any row, up to its end. Now and then, but at most so many times, a
// copy is first picked to an end of its own.
func toEnd(t *testing.T, r *rand.Rand, v *VM, w *plain, copies int) {
	t.Helper()
	for l := w.enabled(); len(l) > 0; l = w.enabled() {
		hold(t, v, w)
		if copies > 0 && r.Intn(8) == 0 {
			copies--
			toEnd(t, r, v.Copy(), w.copy(), copies)
			holdTold(t, v, w)
		}
		both(t, v, w, l[r.Intn(len(l))])
	}
	hold(t, v, w)
}

// Done only when all threads are at their ends and nothing waits any more.
func Test16_3Done(t *testing.T) {
	for m, flush := range map[int]int{api.MTSO: 5, api.MPSO: 12} {
		p := compile(t, "thread { r0 = load y ; } thread { store y 1 ; r0 = 3 ; }")
		v, w := machine(t, p, m), newPlain(p, m)
		for _, i := range []int{1, 0} {
			both(t, v, w, i)
			if v.Done() {
				t.Errorf("model %d: Done with a store that waits, after pick %d", m, i)
			}
		}
		both(t, v, w, flush)
		if !v.Done() || v.Enabled() != 0 {
			t.Errorf("model %d: not Done", m)
		}
		hold(t, v, w)
	}
}

// What registers and memory hold, at each place of a row.
func Test16_3FinalOnTheWay(t *testing.T) {
	p := compile(t, "init { x = 5 ; } thread { store y 3 ; r2 = load y ; } thread { } thread { r1 = cas x 5 6 ; r0 = r1 + r1 ; }")
	for m, rows := range map[int][]struct {
		pick int
		want api.Final
	}{
		api.MSC: {
			{0, api.Final{Mem: [4]int64{5, 3}}},
			{2, api.Final{Mem: [4]int64{6, 3}, Regs: [4][4]int64{2: {10, 5}}}},
			{0, api.Final{Mem: [4]int64{6, 3}, Regs: [4][4]int64{{0, 0, 3}, {}, {10, 5}}}},
		},
		api.MTSO: {
			{0, api.Final{Mem: [4]int64{5}}},
			{0, api.Final{Mem: [4]int64{5}, Regs: [4][4]int64{{0, 0, 3}}}},
			{4, api.Final{Mem: [4]int64{5, 3}, Regs: [4][4]int64{{0, 0, 3}}}},
			{2, api.Final{Mem: [4]int64{6, 3}, Regs: [4][4]int64{{0, 0, 3}, {}, {10, 5}}}},
		},
		api.MPSO: {
			{2, api.Final{Mem: [4]int64{6}, Regs: [4][4]int64{2: {10, 5}}}},
			{0, api.Final{Mem: [4]int64{6}, Regs: [4][4]int64{2: {10, 5}}}},
			{9, api.Final{Mem: [4]int64{6, 3}, Regs: [4][4]int64{2: {10, 5}}}},
			{0, api.Final{Mem: [4]int64{6, 3}, Regs: [4][4]int64{{0, 0, 3}, {}, {10, 5}}}},
		},
	} {
		v := machine(t, p, m)
		if v.Final() != (api.Final{Mem: [4]int64{5}}) {
			t.Errorf("model %d: %v at the beginning", m, v.Final())
		}
		for at, x := range rows {
			if _, ok := v.Pick(x.pick); !ok || v.Final() != x.want {
				t.Errorf("model %d, place %d: %v %v, want %v", m, at, ok, v.Final(), x.want)
			}
		}
		if !v.Done() {
			t.Errorf("model %d: not Done", m)
		}
	}
}

// Numbers at the ends of what an int64 holds go through Bufs and memory whole.
func Test16_3GreatNumbers(t *testing.T) {
	for _, m := range models {
		for _, n := range []string{"9223372036854775807", "-9223372036854775808", "-1", "4294967296"} {
			p := compile(t, "init { y = "+n+" ; } thread { store x "+n+" ; r0 = load x ; r1 = cas y "+n+" 1 ; r2 = cas x 1 0 ; r3 = load x ; }")
			v, w := machine(t, p, m), newPlain(p, m)
			for l := w.enabled(); len(l) > 0; l = w.enabled() {
				both(t, v, w, l[0])
				hold(t, v, w)
			}
			of := p.Init[1]
			if want := (api.Final{Regs: [4][4]int64{{of, of, of, of}}, Mem: [4]int64{of, 1}}); v.Final() != want {
				t.Errorf("model %d, %s: %v, want %v", m, n, v.Final(), want)
			}
		}
	}
}

// Steps is all that was picked, and nothing of what was refused.
func Test16_3Steps(t *testing.T) {
	for _, m := range models {
		v := machine(t, compile(t, bodies[5]), m)
		var want []api.Step
		for at := range 200 {
			if s, ok := v.Pick(at * 7 % 26); ok {
				want = append(want, s)
			}
			if got := v.Steps(); !slices.Equal(got, want) {
				t.Fatalf("model %d: %v, want %v", m, got, want)
			}
		}
		if len(want) < 7 || !v.Done() {
			t.Error(m, want)
		}
	}
}

func Test16_3Name(t *testing.T) {
	names := strings.Fields("t0 t1 t2 t3 f0 f1 f2 f3 f0.0 f0.1 f0.2 f0.3 f1.0 f1.1 f1.2 f1.3 f2.0 f2.1 f2.2 f2.3 f3.0 f3.1 f3.2 f3.3")
	for _, i := range append(slices.Clone(odd), set.Upto(64).List()...) {
		want := ""
		if i >= 0 && i < len(names) {
			want = names[i]
		}
		if got := Name(i); got != want {
			t.Errorf("Name(%d) is %q, want %q", i, got, want)
		}
	}
}

// A machine and its copies are where the one was, and each goes on without the
// others; also copies of copies, and of one that is Done.
func Test16_3Copy(t *testing.T) {
	r := rand.New(rand.NewSource(163))
	for round := range 600 {
		p := ready(t, anyTest(r, 3, 6))
		m := models[round%3]
		vs, ws := []*VM{machine(t, p, m)}, []*plain{newPlain(p, m)}
		for range 60 {
			k := r.Intn(len(vs))
			if r.Intn(6) == 0 && len(vs) < 6 {
				vs, ws = append(vs, vs[k].Copy()), append(ws, ws[k].copy())
				hold(t, vs[len(vs)-1], ws[k])
			}
			if l := ws[k].enabled(); len(l) > 0 {
				both(t, vs[k], ws[k], l[r.Intn(len(l))])
			} else if _, ok := vs[k].Pick(r.Intn(24)); ok {
				t.Fatal("a pick behind the end")
			}
			for at := range vs {
				holdTold(t, vs[at], ws[at])
			}
		}
	}
}
