package prog

import (
	"fmt"
	"math"
	"math/rand"
	"reflect"
	"slices"
	"strings"
	"testing"

	"jacquard/api"
	"jacquard/num"
	"jacquard/print"
	"jacquard/well"
)

var fence = api.Ins{Kind: api.IFence}

func number(n int64) api.Operand { return api.Operand{Reg: -1, Value: n} }

func register(r int) api.Operand { return api.Operand{Reg: r} }

func at(pc int, regs ...int64) api.Local {
	l := api.Local{PC: pc}
	copy(l.Regs[:], regs)
	return l
}

func read(t *testing.T, body string) api.Test {
	t.Helper()
	test, err := well.Read("test a { " + body + " }")
	if err.Code != api.OK {
		t.Fatalf("%q: %v", body, err)
	}
	return test
}

func compile(t *testing.T, body string) api.Prog {
	t.Helper()
	p, code := Compile(read(t, body))
	if code != api.OK {
		t.Fatalf("%q: %v", body, code)
	}
	return p
}

// sameProg takes nil for an empty list.
func sameProg(a, b api.Prog) bool {
	return slices.Equal(a.Locs, b.Locs) && slices.Equal(a.Init, b.Init) &&
		slices.EqualFunc(a.Threads, b.Threads, slices.Equal[[]api.Ins])
}

func holdCompile(t *testing.T, body string, want api.Prog) {
	t.Helper()
	if got := compile(t, body); !sameProg(got, want) {
		t.Errorf("%q:\n%v, want\n%v", body, got, want)
	}
}

func Test6_1EachKind(t *testing.T) {
	holdCompile(t, `init { z = 7 ; m = -3 ; }
		thread { store m r1 ; r0 = load z ; fence ; r2 = cas x 1 r3 ; r3 = r2 << 5 ; r1 = 4 ; skip 1 if r1 == 4 ; fence ; }
		thread { r1 = load x ; store z 9 ; r0 = cas m r0 2 ; }`,
		api.Prog{
			Locs: []byte("mxz"),
			Init: []int64{-3, 0, 7},
			Threads: [][]api.Ins{
				{
					{Kind: api.IStore, Loc: 0, A: register(1)},
					{Kind: api.ILoad, Reg: 0, Loc: 2},
					{Kind: api.IFence},
					{Kind: api.ICas, Reg: 2, Loc: 1, A: number(1), B: register(3)},
					{Kind: api.ISet, Reg: 3, A: register(2), Op: api.OShl, B: number(5)},
					{Kind: api.ISet, Reg: 1, A: number(4), B: number(0)},
					{Kind: api.ISkip, A: register(1), B: number(4), N: 1},
					{Kind: api.IFence},
				},
				{
					{Kind: api.ILoad, Reg: 1, Loc: 1},
					{Kind: api.IStore, Loc: 2, A: number(9)},
					{Kind: api.ICas, Reg: 0, Loc: 0, A: register(0), B: number(2)},
				},
			},
		})
}

func Test6_1LocsAndInit(t *testing.T) {
	none, one := [][]api.Ins{{}}, [][]api.Ins{{fence}}
	store := func(place int) [][]api.Ins {
		return [][]api.Ins{{{Kind: api.IStore, Loc: place, A: number(1)}}}
	}
	holdCompile(t, "thread { }", api.Prog{Threads: none})
	holdCompile(t, "thread { fence ; }", api.Prog{Threads: one})
	holdCompile(t, "init { } thread { fence ; }", api.Prog{Threads: one})
	holdCompile(t, "thread { } thread { fence ; } thread { }", api.Prog{Threads: [][]api.Ins{{}, {fence}, {}}})
	holdCompile(t, "init { q = 5 ; } thread { }", api.Prog{Locs: []byte("q"), Init: []int64{5}, Threads: none})
	holdCompile(t, "init { q = 0 ; } thread { }", api.Prog{Locs: []byte("q"), Init: []int64{0}, Threads: none})
	holdCompile(t, "thread { store a 1 ; }", api.Prog{Locs: []byte("a"), Init: []int64{0}, Threads: store(0)})
	holdCompile(t, "thread { store z 1 ; }", api.Prog{Locs: []byte("z"), Init: []int64{0}, Threads: store(0)})
	holdCompile(t, "thread { } exists q = 5 ;", api.Prog{Locs: []byte("q"), Init: []int64{0}, Threads: none})
	holdCompile(t, "thread { fence ; } exists 0 : r0 = 5 ;", api.Prog{Threads: one})
	holdCompile(t, "init { z = 1 ; a = 2 ; y = 3 ; b = 4 ; } thread { store y 1 ; }",
		api.Prog{Locs: []byte("abyz"), Init: []int64{2, 4, 3, 1}, Threads: store(2)})
	holdCompile(t, "init { z = 9223372036854775807 ; } thread { store c 1 ; } forall a = 3 & b = 4 | z = 9 ;",
		api.Prog{Locs: []byte("abcz"), Init: []int64{0, 0, 0, math.MaxInt64}, Threads: store(2)})
	holdCompile(t, "init { a = -9223372036854775808 ; z = 2 ; } thread { store d 1 ; }",
		api.Prog{Locs: []byte("adz"), Init: []int64{math.MinInt64, 0, 2}, Threads: store(1)})
}

func Test6_1EachLetterItsPlace(t *testing.T) {
	for a := 'a'; a <= 'z'; a++ {
		for b := 'a'; b <= 'z'; b++ {
			p := compile(t, fmt.Sprintf("init { %c = 8 ; } thread { fence ; store %c 1 ; r3 = load %c ; r1 = cas %c 1 2 ; }", b, a, b, a))
			var locs []byte
			for letter := byte('a'); letter <= 'z'; letter++ {
				if rune(letter) == a || rune(letter) == b {
					locs = append(locs, letter)
				}
			}
			placeA, placeB := 0, 0
			if a > b {
				placeA = 1
			}
			if b > a {
				placeB = 1
			}
			init := make([]int64, len(locs))
			init[placeB] = 8
			want := api.Prog{Locs: locs, Init: init, Threads: [][]api.Ins{{fence,
				{Kind: api.IStore, Loc: placeA, A: number(1)},
				{Kind: api.ILoad, Reg: 3, Loc: placeB},
				{Kind: api.ICas, Reg: 1, Loc: placeA, A: number(1), B: number(2)}}}}
			if !sameProg(p, want) {
				t.Fatalf("%c %c: %v, want %v", a, b, p, want)
			}
		}
	}
}

func Test6_1NilAndEmpty(t *testing.T) {
	want := api.Prog{Threads: [][]api.Ins{{}, {fence}}}
	for _, test := range []api.Test{
		{Name: "a", Threads: [][]api.Ins{nil, {fence}}},
		{Name: "a", Threads: [][]api.Ins{{}, {fence}}, Init: []api.Init{}, Cond: api.Cond{Any: [][]api.Atom{}}},
	} {
		if p, code := Compile(test); code != api.OK || !sameProg(p, want) {
			t.Error(test, p, code)
		}
	}
}

func Test6_1Refused(t *testing.T) {
	thread := func(list ...api.Ins) [][]api.Ins { return [][]api.Ins{list} }
	skip := func(n int) api.Ins { return api.Ins{Kind: api.ISkip, A: number(1), B: number(1), N: n} }
	load := func(loc int) api.Ins { return api.Ins{Kind: api.ILoad, Loc: loc} }
	for name, c := range map[string]struct {
		test api.Test
		want api.Errno
	}{
		"the zero test":         {api.Test{}, api.ErrArg},
		"no name":               {api.Test{Threads: thread(fence)}, api.ErrArg},
		"no letter":             {api.Test{Name: "a", Threads: thread(load('A'))}, api.ErrArg},
		"a place for a letter":  {api.Test{Name: "a", Threads: thread(load(0))}, api.ErrArg},
		"no letter in init":     {api.Test{Name: "a", Init: []api.Init{{Loc: 'x' + 256}}, Threads: thread(fence)}, api.ErrArg},
		"no register":           {api.Test{Name: "a", Threads: thread(api.Ins{Kind: api.ILoad, Loc: 'x', Reg: 4})}, api.ErrArg},
		"a fence with a Loc":    {api.Test{Name: "a", Threads: thread(api.Ins{Kind: api.IFence, Loc: 'x'})}, api.ErrArg},
		"no kind":               {api.Test{Name: "a", Threads: thread(api.Ins{})}, api.ErrArg},
		"a skip back":           {api.Test{Name: "a", Threads: thread(skip(-1), fence)}, api.ErrArg},
		"no thread":             {api.Test{Name: "a"}, api.ErrBig},
		"an empty list":         {api.Test{Name: "a", Threads: [][]api.Ins{}}, api.ErrBig},
		"5 threads":             {api.Test{Name: "a", Threads: make([][]api.Ins, 5)}, api.ErrBig},
		"11 instructions":       {api.Test{Name: "a", Threads: thread(slices.Repeat([]api.Ins{fence}, 11)...)}, api.ErrBig},
		"25 instructions":       {api.Test{Name: "a", Threads: append(slices.Repeat([][]api.Ins{slices.Repeat([]api.Ins{fence}, 8)}, 2), slices.Repeat([]api.Ins{fence}, 9))}, api.ErrBig},
		"5 locations":           {api.Test{Name: "a", Threads: thread(load('a'), load('b'), load('c'), load('d'), load('e'))}, api.ErrBig},
		"twice":                 {api.Test{Name: "a", Init: []api.Init{{Loc: 'x'}, {Loc: 'x'}}, Threads: thread(fence)}, api.ErrTwice},
		"twice and nowhere":     {api.Test{Name: "a", Init: []api.Init{{Loc: 'x'}, {Loc: 'x'}}, Threads: thread(skip(9))}, api.ErrTwice},
		"a skip of 0":           {api.Test{Name: "a", Threads: thread(skip(0), fence)}, api.ErrJump},
		"a skip too far":        {api.Test{Name: "a", Threads: thread(skip(2), fence)}, api.ErrJump},
		"a skip at the end":     {api.Test{Name: "a", Threads: thread(fence, skip(1))}, api.ErrJump},
		"an atom of no thread":  {api.Test{Name: "a", Threads: thread(load('x')), Cond: api.Cond{Kind: api.CExists, Any: [][]api.Atom{{{Thread: 1}}}}}, api.ErrJump},
		"a name of 21 bytes":    {api.Test{Name: strings.Repeat("a", 21), Threads: thread(load('x'))}, api.ErrBig},
		"a condition of 9 rows": {api.Test{Name: "a", Threads: thread(load('x')), Cond: api.Cond{Kind: api.CForall, Any: slices.Repeat([][]api.Atom{{{}}}, 9)}}, api.ErrBig},
	} {
		p, code := Compile(c.test)
		if code != c.want || code != well.Check(c.test) || !sameProg(p, api.Prog{}) {
			t.Errorf("%s: %v %d, want %d", name, p, code, c.want)
		}
	}
}

func Test6_1Value(t *testing.T) {
	l := at(3, 5, -6, math.MaxInt64, math.MinInt64)
	for reg, want := range l.Regs {
		for _, n := range []int64{0, 1, -1, 99} {
			if got := Value(api.Operand{Reg: reg, Value: n}, l); got != want {
				t.Errorf("r%d with %d: %d, want %d", reg, n, got, want)
			}
		}
	}
	for _, n := range []int64{0, 1, -1, 4, math.MaxInt64, math.MinInt64} {
		for _, l := range []api.Local{l, {}, at(-1, 7, 7, 7, 7), at(math.MaxInt)} {
			if got := Value(number(n), l); got != n {
				t.Errorf("%d: %d", n, got)
			}
		}
	}
	// What is no register has nothing but its number.
	for _, reg := range []int{4, -2, 5, 256, math.MaxInt, math.MinInt} {
		if got := Value(api.Operand{Reg: reg, Value: 9}, l); got != 9 {
			t.Errorf("register %d: %d", reg, got)
		}
	}
}

// walk steps thread k from Start, telling each After the next value (0 when
// there are no more), and answers each Local; at all but the last stands Next.
func walk(t *testing.T, p api.Prog, k int, values ...int64) []api.Local {
	t.Helper()
	l := Start(p, k)
	row := []api.Local{l}
	for {
		i, ok := Next(p, k, l)
		if !ok {
			if i != (api.Ins{}) {
				t.Errorf("beside false: %v", i)
			}
			return row
		}
		if i != p.Threads[k][l.PC] {
			t.Errorf("Next at %v is %v, want %v", l, i, p.Threads[k][l.PC])
		}
		var value int64
		if len(values) > 0 {
			value, values = values[0], values[1:]
		}
		l = After(p, k, l, value)
		row = append(row, l)
		if len(row) > 20 {
			t.Fatalf("no end: %v", row)
		}
	}
}

func Test6_2Walks(t *testing.T) {
	values := []int64{7, -8, 9, 10}
	for _, c := range []struct {
		name, body string
		want       []api.Local
	}{
		{"no instruction", "", []api.Local{at(0)}},
		{"a fence", "fence ;", []api.Local{at(0), at(1)}},
		{"a store", "store x 5 ;", []api.Local{at(0), at(1)}},
		{"a load", "r0 = load x ;", []api.Local{at(0), at(1, 7)}},
		{"a cas", "r3 = cas x 1 2 ;", []api.Local{at(0), at(1, 0, 0, 0, 7)}},
		{"each kind that stops", "r1 = load x ; store y r1 ; fence ; r1 = cas x r0 r1 ;",
			[]api.Local{at(0), at(1, 0, 7), at(2, 0, 7), at(3, 0, 7), at(4, 0, 10)}},
		{"loads into each", "r0 = load x ; r1 = load x ; r2 = load x ; r3 = load y ;",
			[]api.Local{at(0), at(1, 7), at(2, 7, -8), at(3, 7, -8, 9), at(4, 7, -8, 9, 10)}},
		{"a set first", "r0 = 1 ; store x r0 ;", []api.Local{at(1, 1), at(2, 1)}},
		{"a set last", "fence ; r2 = 6 ;", []api.Local{at(0), at(2, 0, 0, 6)}},
		{"a set alone", "r2 = -6 ;", []api.Local{at(1, 0, 0, -6)}},
		{"sets in a row", "r0 = 2 ; r1 = r0 * 3 ; r2 = r1 - r0 ; r0 = r2 ;", []api.Local{at(4, 4, 6, 4)}},
		{"a set of itself", "r0 = 2 ; r0 = r0 + r0 ; fence ; r0 = r0 + r0 ;", []api.Local{at(2, 4), at(4, 8)}},
		{"a set over a load", "r0 = load x ; r0 = 5 ;", []api.Local{at(0), at(2, 5)}},
		{"a set of a load", "r0 = load x ; r1 = r0 - 1 ; fence ;", []api.Local{at(0), at(2, 7, 6), at(3, 7, 6)}},
		{"a skip that is taken", "skip 1 if 3 == 3 ; fence ; fence ;", []api.Local{at(2), at(3)}},
		{"a skip that is not", "skip 1 if 3 == 4 ; fence ; fence ;", []api.Local{at(1), at(2), at(3)}},
		{"a skip of registers", "skip 2 if r0 == r1 ; fence ; fence ; fence ;", []api.Local{at(3), at(4)}},
		{"a skip behind the end", "skip 1 if 0 == r3 ; fence ;", []api.Local{at(2)}},
		{"a skip of 9 behind the end", "skip 9 if 0 == r3 ; fence ; fence ; fence ; fence ; fence ; fence ; fence ; fence ; fence ;", []api.Local{at(10)}},
		{"a skip last but one that is not", "fence ; skip 1 if 0 == 1 ; r0 = 1 ;", []api.Local{at(0), at(3, 1)}},
		{"skips in a row", "skip 1 if 0 == 0 ; skip 3 if 0 == 0 ; skip 1 if 0 == 1 ; skip 1 if 1 == 1 ; fence ; fence ;", []api.Local{at(5), at(6)}},
		{"a skip onto a skip", "skip 1 if 0 == 0 ; fence ; skip 1 if 0 == 0 ; fence ;", []api.Local{at(4)}},
		{"a skip over a set", "skip 1 if 0 == 0 ; r0 = 1 ; store x r0 ;", []api.Local{at(2), at(3)}},
		{"a skip onto a set", "skip 1 if 0 == 0 ; fence ; r0 = 1 ;", []api.Local{at(3, 1)}},
		{"a skip of a load", "r0 = load x ; skip 1 if r0 == 7 ; fence ; store y r0 ;", []api.Local{at(0), at(3, 7), at(4, 7)}},
		{"a skip of another load", "r0 = load x ; skip 1 if r0 == 8 ; fence ; store y r0 ;", []api.Local{at(0), at(2, 7), at(3, 7), at(4, 7)}},
		{"a skip of a cas", "r1 = cas x 0 1 ; skip 2 if 7 == r1 ; r2 = 1 ; fence ; r3 = 2 ;", []api.Local{at(0), at(5, 0, 7, 0, 2)}},
		{"sets and skips between", "r0 = 1 ; skip 1 if r0 == 1 ; r1 = 1 ; store x r0 ; skip 1 if r1 == 1 ; r2 = 3 ; fence ; r3 = r2 ;",
			[]api.Local{at(3, 1), at(6, 1, 0, 3), at(8, 1, 0, 3, 3)}},
		{"all 10 at once", strings.Repeat("r1 = r1 + 2 ; ", 10), []api.Local{at(10, 0, 20)}},
	} {
		p := compile(t, "thread { "+c.body+" }")
		if got := walk(t, p, 0, values...); !slices.Equal(got, c.want) {
			t.Errorf("%s: %v, want %v", c.name, got, c.want)
		}
		// The same thread behind others is the same.
		p = compile(t, "thread { r3 = 9 ; } thread { } thread { fence ; r1 = 7 ; } thread { "+c.body+" }")
		if got := walk(t, p, 3, values...); !slices.Equal(got, c.want) {
			t.Errorf("%s, as thread 3: %v, want %v", c.name, got, c.want)
		}
	}
}

func Test6_2EachSign(t *testing.T) {
	const most, least = math.MaxInt64, math.MinInt64
	for _, c := range []struct {
		set  string
		want int64
	}{
		{"r0", 12}, {"r1", -5}, {"-7", -7}, {"0", 0},
		{"r0 + r1", 7}, {"r0 - r1", 17}, {"r1 - r0", -17}, {"r0 * r1", -60}, {"r0 & 10", 8}, {"r0 | 3", 15}, {"r0 ^ 5", 9},
		{"r0 << 2", 48}, {"2 << r0", 8192}, {"r1 >> 1", -3}, {"r0 >> 1", 6}, {"r0 == 12", 1}, {"r0 == r1", 0},
		{"r0 != 12", 0}, {"r0 != r1", 1}, {"r0 < r1", 0}, {"r1 < r0", 1},
		{"r2 + 1", least}, {"r3 - 1", most}, {"r2 * 2", -2}, {"r3 * -1", least}, {"0 - r3", least}, {"r2 + r2", -2},
		{"1 << 64", 1}, {"1 << 63", least}, {"1 << -1", least}, {"r3 >> 63", -1}, {"r2 << 1", -2},
	} {
		p := compile(t, "thread { r0 = 12 ; r1 = -5 ; r2 = 9223372036854775807 ; r3 = -9223372036854775808 ; r0 = "+c.set+" ; }")
		if got, want := Start(p, 0), at(5, c.want, -5, most, least); got != want {
			t.Errorf("%s: %v, want %v", c.set, got, want)
		}
		// The same numbers, told by what is read.
		p = compile(t, "thread { r0 = load x ; r1 = cas x 1 2 ; r2 = load x ; r3 = load y ; r1 = "+c.set+" ; }")
		row := walk(t, p, 0, 12, -5, most, least)
		if got, want := row[len(row)-1], at(5, 12, c.want, most, least); got != want {
			t.Errorf("%s of what is read: %v, want %v", c.set, got, want)
		}
	}
}

func Test6_2Op0(t *testing.T) {
	for _, c := range []struct {
		set  api.Ins
		want api.Local
	}{
		{api.Ins{Kind: api.ISet, Reg: 1, A: number(7), B: number(0)}, at(1, 0, 7)},
		{api.Ins{Kind: api.ISet, Reg: 1, A: register(0), B: number(0)}, at(1, 0, 0)},
		{api.Ins{Kind: api.ISet, Reg: 0, A: number(math.MinInt64), B: number(0)}, at(1, math.MinInt64)},
	} {
		p, code := Compile(api.Test{Name: "a", Threads: [][]api.Ins{{c.set}}})
		if got := Start(p, 0); code != api.OK || got != c.want {
			t.Error(c.set, code, got)
		}
	}
}

// Only a load's and a cas's register is told; the numbers of a cas are not
// asked for, and no thread's steps change another one's.
func Test6_2After(t *testing.T) {
	p := compile(t, "thread { store x 1 ; fence ; r1 = load x ; r2 = cas x r1 5 ; }")
	for _, value := range []int64{0, 1, -1, 5, math.MaxInt64, math.MinInt64} {
		l := at(0, 11, 12, 13, 14)
		for _, want := range []api.Local{
			at(1, 11, 12, 13, 14), at(2, 11, 12, 13, 14), at(3, 11, value, 13, 14), at(4, 11, value, value, 14), at(4, 11, value, value, 14),
		} {
			before := l
			got := After(p, 0, l, value)
			if got != want || l != before {
				t.Errorf("After %v with %d: %v, want %v", l, value, got, want)
			}
			l = got
		}
	}
}

func Test6_2NoNext(t *testing.T) {
	p := compile(t, "thread { r0 = 1 ; skip 1 if 0 == 0 ; fence ; r2 = load x ; r1 = 2 ; } thread { } thread { fence ; }")
	holdNone := func(k int, l api.Local) {
		t.Helper()
		if i, ok := Next(p, k, l); ok || i != (api.Ins{}) {
			t.Errorf("thread %d, %v: Next is %v, %v", k, l, i, ok)
		}
		if got := After(p, k, l, 99); got != l {
			t.Errorf("thread %d, %v: After is %v", k, l, got)
		}
	}
	ends := []int{5, 0, 1}
	for k, end := range ends {
		for _, pc := range []int{-1, -2, -64, math.MinInt, end, end + 1, end + 2, 10, 24, 1000, 1 << 32, math.MaxInt - 1, math.MaxInt} {
			holdNone(k, at(pc))
			holdNone(k, at(pc, 1, -2, 3, -4))
		}
	}
	for _, pc := range []int{0, 1, 4} {
		holdNone(0, at(pc))
		holdNone(0, at(pc, 1, -2, 3, -4))
	}
	for _, k := range []int{-1, -2, 3, 4, 100, math.MinInt, math.MaxInt} {
		for _, pc := range []int{-1, 0, 1, 3, 5} {
			holdNone(k, at(pc))
			holdNone(k, at(pc, 1, -2, 3, -4))
		}
		if got := Start(p, k); got != (api.Local{}) {
			t.Errorf("Start of thread %d: %v", k, got)
		}
	}
	// A place that no run comes to has its Next all the same.
	if i, ok := Next(p, 0, at(2, 9, 9, 9, 9)); !ok || i != fence {
		t.Error(i, ok)
	}
	if got := After(p, 0, at(2, 9, 9, 9, 9), 1); got != at(3, 9, 9, 9, 9) {
		t.Error(got)
	}
}

func Test6_2NilProg(t *testing.T) {
	for _, p := range []api.Prog{{}, {Threads: [][]api.Ins{}}, {Threads: [][]api.Ins{nil}}, {Threads: [][]api.Ins{{}}}} {
		for _, k := range []int{-1, 0, 1} {
			l := at(0, 5)
			if i, ok := Next(p, k, l); ok || i != (api.Ins{}) || After(p, k, l, 3) != l || Start(p, k) != (api.Local{}) || Size(p) != 0 {
				t.Error(p, k)
			}
		}
	}
}

func Test6_2Size(t *testing.T) {
	for body, want := range map[string]int{
		"thread { }":                                      0,
		"thread { } thread { } thread { }":                0,
		"thread { fence ; }":                              1,
		"thread { r0 = 1 ; skip 1 if 0 == 0 ; r1 = 2 ; }": 3,
		"thread { fence ; } thread { } thread { r0 = load x ; store y 1 ; r1 = 2 ; }":     4,
		"init { x = 1 ; y = 2 ; } thread { fence ; fence ; } exists x = 1 | 0 : r0 = 2 ;": 2,
		strings.Repeat("thread { "+strings.Repeat("fence ; ", 6)+"} ", 4):                 24,
		strings.Repeat("thread { "+strings.Repeat("r0 = 1 ; ", 10)+"} ", 2):               20,
	} {
		if got := Size(compile(t, body)); got != want {
			t.Errorf("%q: %d, want %d", body, got, want)
		}
	}
}

// Ways: a Local is a value, and may be a key.
func Test6_2LocalsAreKeys(t *testing.T) {
	p := compile(t, "thread { r0 = load x ; r1 = load y ; r2 = r0 + r1 ; r0 = 0 ; r1 = 0 ; fence ; }")
	seen := map[api.Local]int{}
	for a := range int64(4) {
		for b := range int64(4) {
			row := walk(t, p, 0, a, b)
			seen[row[len(row)-1]]++
		}
	}
	for sum, want := range []int{1, 2, 3, 4, 3, 2, 1} {
		if got := seen[at(6, 0, 0, int64(sum))]; got != want {
			t.Errorf("sum %d: %d, want %d", sum, got, want)
		}
	}
	if len(seen) != 7 {
		t.Error(seen)
	}
}

// told is a second reckoning of a thread, from its list with letters: it does
// one instruction at a time and writes down where memory would be asked.
func told(list []api.Ins, values []int64) (pcs []int, end api.Local) {
	var regs [4]int64
	of := func(o api.Operand) int64 {
		if o.Reg == -1 {
			return o.Value
		}
		return regs[o.Reg]
	}
	out := 0
	for pc, i := range list {
		if out > 0 {
			out--
			continue
		}
		switch i.Kind {
		case api.ISet:
			n, ok := num.Do(i.Op, of(i.A), of(i.B))
			if !ok {
				n = of(i.A)
			}
			regs[i.Reg] = n
		case api.ISkip:
			if of(i.A) == of(i.B) {
				out = i.N
			}
		default:
			if i.Kind == api.ILoad || i.Kind == api.ICas {
				regs[i.Reg] = values[len(pcs)]
			}
			pcs = append(pcs, pc)
		}
	}
	return pcs, api.Local{PC: len(list), Regs: regs}
}

// holdRun steps thread k from Start and holds it against told.
func holdRun(t *testing.T, p api.Prog, k int, list []api.Ins, values []int64) {
	t.Helper()
	pcs, end := told(list, values)
	l := Start(p, k)
	for step, pc := range pcs {
		i, ok := Next(p, k, l)
		want := list[pc]
		if want.Kind == api.IStore || want.Kind == api.ILoad || want.Kind == api.ICas {
			want.Loc = slices.Index(p.Locs, byte(want.Loc))
		}
		if !ok || l.PC != pc || i != want {
			t.Fatalf("%v with %v: step %d is %v at %v, want %v at %d", list, values, step, i, l, want, pc)
		}
		l = After(p, k, l, values[step])
	}
	if i, ok := Next(p, k, l); ok || l != end || i != (api.Ins{}) {
		t.Fatalf("%v with %v: ends at %v, want %v", list, values, l, end)
	}
}

func few() []api.Ins {
	return []api.Ins{
		fence,
		{Kind: api.IStore, Loc: 'x', A: register(0)},
		{Kind: api.ILoad, Reg: 0, Loc: 'y'},
		{Kind: api.ICas, Reg: 1, Loc: 'x', A: number(1), B: register(0)},
		{Kind: api.ISet, Reg: 0, A: number(1), B: number(0)},
		{Kind: api.ISet, Reg: 1, A: register(0), Op: api.OSub, B: register(1)},
		{Kind: api.ISkip, A: register(0), B: number(1), N: 1},
		{Kind: api.ISkip, A: register(1), B: register(0), N: 2},
		{Kind: api.ISkip, A: number(3), B: number(3), N: 3},
	}
}

// All threads of up to four of a few instructions, so that each kind is first,
// last and next to each other one.
func Test6_2AllShortThreads(t *testing.T) {
	taken := 0
	var longer func(list []api.Ins)
	longer = func(list []api.Ins) {
		if p, code := Compile(api.Test{Name: "a", Threads: [][]api.Ins{list}}); code == api.OK {
			taken++
			for bits := range 1 << len(list) {
				values := make([]int64, len(list))
				for at := range values {
					values[at] = int64(bits >> at & 1)
				}
				holdRun(t, p, 0, list, values)
			}
		}
		if len(list) == 4 {
			return
		}
		for _, i := range few() {
			longer(append(slices.Clone(list), i))
		}
	}
	longer(nil)
	if taken < 2000 {
		t.Error("only", taken, "threads")
	}
}

// anyTest makes tests of every kind of instruction that Check takes.
func anyTest(r *rand.Rand) api.Test {
	locs := "awxz"
	operand := func() api.Operand {
		if r.Intn(2) == 0 {
			return number([]int64{0, 1, 2, -1, math.MaxInt64, math.MinInt64}[r.Intn(6)])
		}
		return register(r.Intn(4))
	}
	t := api.Test{Name: "a"}
	for _, place := range r.Perm(4)[:r.Intn(5)] {
		t.Init = append(t.Init, api.Init{Loc: int(locs[place]), Value: r.Int63()})
	}
	for range 1 + r.Intn(4) {
		list := make([]api.Ins, r.Intn(7))
		for at := range list {
			i := api.Ins{Kind: api.ISet, Reg: r.Intn(4), A: operand(), B: number(0)}
			if i.Op = r.Intn(12); i.Op > 0 {
				i.B = operand()
			}
			switch loc := int(locs[r.Intn(4)]); r.Intn(7) {
			case 0:
				i = api.Ins{Kind: api.IStore, Loc: loc, A: operand()}
			case 1:
				i = api.Ins{Kind: api.ILoad, Reg: r.Intn(4), Loc: loc}
			case 2:
				i = api.Ins{Kind: api.ICas, Reg: r.Intn(4), Loc: loc, A: operand(), B: operand()}
			case 3:
				i = fence
			case 4, 5:
				if left := len(list) - at - 1; left > 0 {
					i = api.Ins{Kind: api.ISkip, A: operand(), B: operand(), N: 1 + r.Intn(left)}
				}
			}
			list[at] = i
		}
		t.Threads = append(t.Threads, list)
	}
	return t
}

func someValues(r *rand.Rand, n int) []int64 {
	values := make([]int64, n)
	for at := range values {
		values[at] = []int64{0, 1, 2, -1, math.MaxInt64, math.MinInt64, r.Int63()}[r.Intn(7)]
	}
	return values
}

func Test6_2AnyThreads(t *testing.T) {
	r := rand.New(rand.NewSource(62))
	for range 20000 {
		test := anyTest(r)
		p, code := Compile(test)
		if code != api.OK {
			t.Fatal(code, print.Test(test))
		}
		for k, list := range test.Threads {
			holdRun(t, p, k, list, someValues(r, len(list)))
		}
	}
}

// W4 of threads: each step leads on, none leads behind the end, and all end
// within as many steps as there are instructions, whatever is read.
func Test6_3ThreadsEnd(t *testing.T) {
	r := rand.New(rand.NewSource(63))
	for range 20000 {
		test := anyTest(r)
		p, _ := Compile(test)
		all := 0
		for k, list := range p.Threads {
			l, steps := Start(p, k), 0
			for _, ok := Next(p, k, l); ok; _, ok = Next(p, k, l) {
				after := After(p, k, l, someValues(r, 1)[0])
				if after.PC <= l.PC {
					t.Fatalf("thread %d: %v leads to %v: %s", k, l, after, print.Test(test))
				}
				l, steps = after, steps+1
			}
			if l.PC != len(list) || steps > len(list) {
				t.Fatalf("thread %d ends at %v after %d steps: %s", k, l, steps, print.Test(test))
			}
			all += steps
		}
		if all > Size(p) {
			t.Fatalf("%d steps: %s", all, print.Test(test))
		}
	}
}

func Test6_3AsManyStepsAsInstructions(t *testing.T) {
	for _, ins := range []string{"fence ; ", "store x r1 ; ", "r0 = load x ; ", "r0 = cas x 0 1 ; "} {
		p := compile(t, strings.Repeat("thread { "+strings.Repeat(ins, 6)+"} ", 4))
		for k := range p.Threads {
			if row := walk(t, p, k); len(row) != 7 || row[6].PC != 6 {
				t.Error(ins, row)
			}
		}
	}
}

// Programs that Compile did not make: the answers are free, but there are some.
func Test6_4AnyProg(t *testing.T) {
	r := rand.New(rand.NewSource(64))
	odd := []int{math.MinInt, math.MinInt + 1, -256, -4, -2, -1, 0, 1, 2, 3, 4, 5, 6, 7, 11, 12, 'a', 1 << 32, math.MaxInt - 1, math.MaxInt}
	any := func() int { return odd[r.Intn(len(odd))] }
	kind := func() int {
		if r.Intn(3) > 0 {
			return []int{api.ISet, api.ISkip, api.ISkip, api.ILoad}[r.Intn(4)]
		}
		return any()
	}
	operand := func() api.Operand { return api.Operand{Reg: any(), Value: int64(any())} }
	for range 30000 {
		var p api.Prog
		for range r.Intn(4) {
			list := make([]api.Ins, r.Intn(5))
			for at := range list {
				list[at] = api.Ins{Kind: kind(), Reg: any(), Loc: any(), A: operand(), Op: any(), B: operand(), N: any()}
				if r.Intn(2) == 0 {
					list[at].B = list[at].A
				}
			}
			p.Threads = append(p.Threads, list)
		}
		Size(p)
		for _, k := range []int{any(), 0, 1, 2} {
			for _, l := range []api.Local{Start(p, k), at(any(), int64(any())), at(0), at(1)} {
				for steps := 0; ; steps++ {
					i, ok := Next(p, k, l)
					Value(i.A, l)
					after := After(p, k, l, int64(any()))
					if !ok && after != l {
						t.Fatalf("After without Next: %v, %v", p, l)
					}
					if !ok {
						break
					}
					if l = after; steps > 5 {
						t.Fatalf("no end: %v", p)
					}
				}
			}
		}
	}
}

func Test6_4AnyTest(t *testing.T) {
	r := rand.New(rand.NewSource(65))
	odd := []int{math.MinInt, -2, -1, 0, 1, 2, 3, 4, 5, 6, 7, 10, 'a', 'z', 128, 256 + 'a', math.MaxInt}
	any := func() int { return odd[r.Intn(len(odd))] }
	for range 20000 {
		test := anyTest(r)
		for range 1 + r.Intn(2) {
			k := r.Intn(len(test.Threads))
			if len(test.Threads[k]) == 0 {
				continue
			}
			i := &test.Threads[k][r.Intn(len(test.Threads[k]))]
			for _, field := range []*int{&i.Kind, &i.Reg, &i.Loc, &i.Op, &i.N, &i.A.Reg, &i.B.Reg} {
				if r.Intn(5) == 0 {
					*field = any()
				}
			}
		}
		p, code := Compile(test)
		if code != well.Check(test) || code != api.OK && !sameProg(p, api.Prog{}) {
			t.Fatal(code, p, test)
		}
	}
}

func Test6_4EndsOnGreatPrograms(t *testing.T) {
	const many = 300000
	set := api.Ins{Kind: api.ISet, Reg: 1, A: register(1), Op: api.OAdd, B: number(1)}
	p := api.Prog{Threads: [][]api.Ins{slices.Repeat([]api.Ins{set}, many)}}
	if got := Start(p, 0); got != at(many, 0, many) || Size(p) != many {
		t.Error(got)
	}
	skip := api.Ins{Kind: api.ISkip, A: number(1), B: number(1), N: math.MaxInt}
	p = api.Prog{Threads: [][]api.Ins{slices.Repeat([]api.Ins{skip}, many)}}
	Start(p, 0)
	skip.N = -1
	p = api.Prog{Threads: [][]api.Ins{slices.Repeat([]api.Ins{skip}, many)}}
	Start(p, 0)
	if _, code := Compile(api.Test{Name: "a", Threads: p.Threads}); code != api.ErrArg {
		t.Error(code)
	}
}

// Rule 3: nothing that is handed in is changed, nor the room behind it.
func Test6_4LeavesWhatItIsGiven(t *testing.T) {
	whole := func() api.Test {
		return read(t, "init { y = 1 ; q = 2 ; } thread { store x 1 ; r0 = load y ; r1 = r0 ; } thread { r0 = 5 ; fence ; } thread { fence ; } exists 0 : r0 = 1 | q = 2 ;")
	}
	cut := func(test api.Test) api.Test {
		test.Init = test.Init[:1]
		test.Threads[0] = test.Threads[0][:2]
		test.Threads = test.Threads[:2]
		test.Cond.Any = test.Cond.Any[:1]
		return test
	}
	test := whole()
	short := cut(test)
	p, code := Compile(short)
	want := api.Prog{Locs: []byte("xy"), Init: []int64{0, 1}, Threads: [][]api.Ins{
		{{Kind: api.IStore, A: number(1)}, {Kind: api.ILoad, Loc: 1}},
		{{Kind: api.ISet, A: number(5), B: number(0)}, fence},
	}}
	if code != api.OK || !sameProg(p, want) {
		t.Error("spare room counts:", p, code)
	}
	if !reflect.DeepEqual(short, cut(whole())) {
		t.Error("what was handed in is changed:", short)
	}
	short.Threads[0] = short.Threads[0][:3]
	if !reflect.DeepEqual(test, whole()) {
		t.Error("the room behind it is changed:", test)
	}
	for k := -1; k < 3; k++ {
		l := Start(p, k)
		Next(p, k, l)
		After(p, k, l, 8)
	}
	Size(p)
	if !sameProg(p, want) {
		t.Error("a program is changed:", p)
	}
}

// Rule 3: an answer is new memory, and no two of its lists share any.
func Test6_4AnswersAreNew(t *testing.T) {
	body := "init { y = 1 ; } thread { store x 1 ; fence ; } thread { r0 = load y ; } thread { }"
	test := read(t, body)
	p, _ := Compile(test)
	for k := range p.Threads {
		p.Threads[k] = append(p.Threads[k], api.Ins{Kind: api.ICas, Reg: 3, Loc: k})
	}
	p.Locs, p.Init = append(p.Locs, '!'), append(p.Init, 77)
	want := api.Prog{Locs: []byte("xy!"), Init: []int64{0, 1, 77}, Threads: [][]api.Ins{
		{{Kind: api.IStore, A: number(1)}, fence, {Kind: api.ICas, Reg: 3, Loc: 0}},
		{{Kind: api.ILoad, Loc: 1}, {Kind: api.ICas, Reg: 3, Loc: 1}},
		{{Kind: api.ICas, Reg: 3, Loc: 2}},
	}}
	if !sameProg(p, want) {
		t.Error("lists share memory:", p)
	}
	first := compile(t, body)
	p, _ = Compile(test)
	for k := range p.Threads {
		clear(p.Threads[k])
		p.Threads[k] = nil
	}
	clear(p.Locs)
	clear(p.Init)
	if !reflect.DeepEqual(test, read(t, body)) {
		t.Error("an answer shares memory with a test:", test)
	}
	if again, _ := Compile(test); !sameProg(again, first) {
		t.Error("an answer is not new:", again)
	}
}
