package well

import (
	"fmt"
	"math"
	"math/rand"
	"reflect"
	"slices"
	"strings"
	"testing"

	"jacquard/api"
	"jacquard/parse"
	"jacquard/print"
)

var fence = api.Ins{Kind: api.IFence}

func fences(n int) []api.Ins { return slices.Repeat([]api.Ins{fence}, n) }

// threads has a thread of n fences for each n.
func threads(lengths ...int) [][]api.Ins {
	var list [][]api.Ins
	for _, n := range lengths {
		list = append(list, fences(n))
	}
	return list
}

func skip(n int) api.Ins {
	return api.Ins{Kind: api.ISkip, N: n, A: api.Operand{Reg: 1}, B: api.Operand{Reg: -1, Value: 7}}
}

func store(loc int) api.Ins {
	return api.Ins{Kind: api.IStore, Loc: loc, A: api.Operand{Reg: -1, Value: 1}}
}

func load(loc int) api.Ins {
	return api.Ins{Kind: api.ILoad, Loc: loc}
}

func cas(loc int) api.Ins {
	return api.Ins{Kind: api.ICas, Loc: loc, A: api.Operand{Reg: -1}, B: api.Operand{Reg: 2}}
}

func inThread(ins ...api.Ins) api.Test {
	return api.Test{Name: "a", Threads: [][]api.Ins{ins}}
}

func inThreads(list [][]api.Ins) api.Test {
	return api.Test{Name: "a", Threads: list}
}

func begins(locs string) []api.Init {
	var list []api.Init
	for at, loc := range []byte(locs) {
		list = append(list, api.Init{Loc: int(loc), Value: int64(at)})
	}
	return list
}

func inInit(locs string) api.Test {
	return api.Test{Name: "a", Init: begins(locs), Threads: threads(0)}
}

func atoms(locs string) []api.Atom {
	var row []api.Atom
	for _, loc := range []byte(locs) {
		row = append(row, api.Atom{Thread: -1, Loc: int(loc), Value: 3})
	}
	return row
}

func asked(rows ...[]api.Atom) api.Test {
	return api.Test{Name: "a", Threads: threads(0), Cond: api.Cond{Kind: api.CForall, Any: rows}}
}

func ofThread(thread int) []api.Atom {
	return []api.Atom{{Thread: thread, Reg: 3, Value: 1}}
}

func TestMain(m *testing.M) {
	// Ok is told by the layer below; without it no test here says anything.
	if !print.Ok(inThread(skip(0), store('x'), load('x'), cas('x'))) {
		panic("print.Ok")
	}
	m.Run()
}

type edge struct {
	name string
	test api.Test
	want api.Errno
}

func holdCheck(t *testing.T, edges []edge) {
	t.Helper()
	for _, e := range edges {
		if got := Check(e.test); got != e.want {
			t.Errorf("%s: Check is %d, want %d", e.name, got, e.want)
		}
	}
}

func Test5_1Threads(t *testing.T) {
	holdCheck(t, []edge{
		{"nil threads", api.Test{Name: "a"}, api.ErrBig},
		{"no thread", api.Test{Name: "a", Threads: [][]api.Ins{}}, api.ErrBig},
		{"1 thread of nil", api.Test{Name: "a", Threads: [][]api.Ins{nil}}, api.OK},
		{"1 empty thread", api.Test{Name: "a", Threads: [][]api.Ins{{}}}, api.OK},
		{"4 threads", inThreads(threads(0, 0, 0, 0)), api.OK},
		{"5 threads", inThreads(threads(0, 0, 0, 0, 0)), api.ErrBig},
		{"10 instructions", inThreads(threads(10)), api.OK},
		{"11 instructions", inThreads(threads(11)), api.ErrBig},
		{"11 instructions in the last", inThreads(threads(0, 0, 0, 11)), api.ErrBig},
		{"24 in all", inThreads(threads(10, 10, 4)), api.OK},
		{"24 in all of 4", inThreads(threads(6, 6, 6, 6)), api.OK},
		{"25 in all", inThreads(threads(10, 10, 5)), api.ErrBig},
		{"25 in all of 4", inThreads(threads(6, 6, 6, 7)), api.ErrBig},
		{"25 in all, the first", inThreads(threads(7, 6, 6, 6)), api.ErrBig},
	})
}

func Test5_1TooManyLocations(t *testing.T) {
	holdCheck(t, []edge{
		{"4 in init", inInit("azby"), api.OK},
		{"5 in init", inInit("azbyc"), api.ErrBig},
		{"26 in init", inInit("abcdefghijklmnopqrstuvwxyz"), api.ErrBig},
		{"4 in instructions", inThread(store('z'), load('a'), cas('m'), load('n')), api.OK},
		{"5 in instructions", inThread(store('z'), load('a'), cas('m'), load('n'), store('b')), api.ErrBig},
		{"4 of stores", inThread(store('a'), store('b'), store('c'), store('d')), api.OK},
		{"5 of stores", inThread(store('a'), store('b'), store('c'), store('d'), store('e')), api.ErrBig},
		{"5 of loads", inThread(load('a'), load('b'), load('c'), load('d'), load('e')), api.ErrBig},
		{"5 of cas", inThread(cas('a'), cas('b'), cas('c'), cas('d'), cas('e')), api.ErrBig},
		{"5 in two threads", inThreads([][]api.Ins{{store('a'), load('b')}, {load('c'), cas('d'), load('e')}}), api.ErrBig},
		{"4 in two threads", inThreads([][]api.Ins{{store('a'), load('b')}, {load('c'), cas('d'), load('a')}}), api.OK},
		{"4 in atoms", asked(atoms("wxyz")), api.OK},
		{"5 in atoms", asked(atoms("wxyzv")), api.ErrBig},
		{"4 in rows", asked(atoms("wx"), atoms("yz"), atoms("zw")), api.OK},
		{"5 in rows", asked(atoms("wx"), atoms("yz"), atoms("a")), api.ErrBig},
		{"4 again and again", asked(atoms("wxyzwxyz"), atoms("zzzzzzzz")), api.OK},
		{"4 out of all", api.Test{Name: "a", Init: begins("xy"), Threads: [][]api.Ins{{store('z'), load('x')}},
			Cond: api.Cond{Kind: api.CExists, Any: [][]api.Atom{atoms("wx")}}}, api.OK},
		{"5 out of all", api.Test{Name: "a", Init: begins("xy"), Threads: [][]api.Ins{{store('z'), load('x')}},
			Cond: api.Cond{Kind: api.CExists, Any: [][]api.Atom{atoms("wv")}}}, api.ErrBig},
	})
}

func Test5_1Condition(t *testing.T) {
	one, eight, nine := atoms("x"), atoms("xxxxxxxx"), atoms("xxxxxxxxx")
	rows := func(n int) [][]api.Atom { return slices.Repeat([][]api.Atom{one}, n) }
	holdCheck(t, []edge{
		{"no condition", api.Test{Name: "a", Threads: threads(1)}, api.OK},
		{"no condition, an empty list", api.Test{Name: "a", Threads: threads(1), Cond: api.Cond{Any: [][]api.Atom{}}}, api.OK},
		{"1 atom", asked(one), api.OK},
		{"8 rows", asked(rows(8)...), api.OK},
		{"9 rows", asked(rows(9)...), api.ErrBig},
		{"8 atoms", asked(eight), api.OK},
		{"9 atoms", asked(nine), api.ErrBig},
		{"9 atoms in the last row", asked(one, one, nine), api.ErrBig},
		{"8 rows of 8", asked(slices.Repeat([][]api.Atom{eight}, 8)...), api.OK},
	})
}

func Test5_1Name(t *testing.T) {
	named := func(n int) api.Test {
		return api.Test{Name: "a" + strings.Repeat("7", n-1), Threads: threads(1)}
	}
	holdCheck(t, []edge{
		{"1 byte", named(1), api.OK},
		{"20 bytes", named(20), api.OK},
		{"21 bytes", named(21), api.ErrBig},
		{"4000 bytes", named(4000), api.ErrBig},
	})
}

func Test5_1Twice(t *testing.T) {
	same := inInit("x")
	same.Init = append(same.Init, same.Init[0])
	holdCheck(t, []edge{
		{"nil", api.Test{Name: "a", Init: nil, Threads: threads(1)}, api.OK},
		{"empty", api.Test{Name: "a", Init: []api.Init{}, Threads: threads(1)}, api.OK},
		{"once each", inInit("zxya"), api.OK},
		{"at once again", inInit("xx"), api.ErrTwice},
		{"with the same number", same, api.ErrTwice},
		{"first and last", inInit("axyza"), api.ErrTwice},
		{"last of all", inInit("axyzz"), api.ErrTwice},
		{"often", inInit(strings.Repeat("x", 100)), api.ErrTwice},
		{"in init and behind it", api.Test{Name: "a", Init: begins("x"), Threads: [][]api.Ins{{store('x'), store('x')}},
			Cond: api.Cond{Kind: api.CExists, Any: [][]api.Atom{atoms("xx")}}}, api.OK},
	})
}

func Test5_1Skip(t *testing.T) {
	for length := 1; length <= 10; length++ {
		for at := range length {
			for _, n := range []int{0, 1, 2, 8, 9, 10, 11, length - at - 1, length - at, length, math.MaxInt - at, math.MaxInt - at - 1, math.MaxInt} {
				thread := fences(length)
				thread[at] = skip(n)
				want := api.ErrJump
				for behind := 1; at+behind < length; behind++ {
					if n == behind {
						want = api.OK
					}
				}
				name := fmt.Sprintf("%d at %d of %d", n, at, length)
				holdCheck(t, []edge{
					{name, inThread(thread...), want},
					{name + ", the second thread", inThreads([][]api.Ins{fences(10), thread}), want},
					{name + ", the first thread", inThreads([][]api.Ins{thread, fences(10)}), want},
				})
			}
		}
	}
}

func Test5_1AtomOfNoThread(t *testing.T) {
	for count := 1; count <= 4; count++ {
		for thread := range 10 {
			want := api.OK
			if thread >= count {
				want = api.ErrJump
			}
			test := inThreads(slices.Repeat([][]api.Ins{{fence}}, count))
			for _, kind := range []int{api.CExists, api.CForall} {
				for _, rows := range [][][]api.Atom{
					{ofThread(thread)},
					{ofThread(0), ofThread(thread)},
					{append(ofThread(0), ofThread(thread)...)},
					{append(ofThread(thread), atoms("x")...), ofThread(0)},
				} {
					test.Cond = api.Cond{Kind: kind, Any: rows}
					holdCheck(t, []edge{{fmt.Sprint(count, rows), test, want}})
				}
			}
		}
	}
	holdCheck(t, []edge{{"a location's", asked(atoms("xy")), api.OK}})
}

// wrong is what is laid upon a test that is small enough.
type wrong struct {
	name  string
	code  api.Errno
	spoil func(t *api.Test)
}

func wrongs() []wrong {
	return []wrong{
		{"no word", api.ErrArg, func(t *api.Test) { t.Name += "A" }},
		{"no letter in init", api.ErrArg, func(t *api.Test) { t.Init = append(t.Init, api.Init{Loc: 'A'}) }},
		{"no instruction", api.ErrArg, func(t *api.Test) { t.Threads = append(t.Threads, []api.Ins{{}}) }},
		{"a fence with N", api.ErrArg, func(t *api.Test) { t.Threads = append(t.Threads, []api.Ins{{Kind: api.IFence, N: 1}}) }},
		{"a skip below 0", api.ErrArg, func(t *api.Test) { t.Threads = append(t.Threads, []api.Ins{skip(-1), fence, fence}) }},
		{"an atom of thread 10", api.ErrArg, func(t *api.Test) { t.Cond.Any = append(t.Cond.Any, ofThread(10)) }},
		{"an empty row", api.ErrArg, func(t *api.Test) { t.Cond.Any = append(t.Cond.Any, nil) }},
		{"a condition of no kind", api.ErrArg, func(t *api.Test) { t.Cond.Kind = 3 }},
		{"a long name", api.ErrBig, func(t *api.Test) { t.Name = strings.Repeat("b", 21) + t.Name }},
		{"many threads", api.ErrBig, func(t *api.Test) { t.Threads = append(t.Threads, threads(0, 0, 0)...) }},
		{"a long thread", api.ErrBig, func(t *api.Test) { t.Threads = append(t.Threads, fences(11)) }},
		{"many instructions", api.ErrBig, func(t *api.Test) { t.Threads = append(t.Threads, threads(10, 10)...) }},
		{"many locations", api.ErrBig, func(t *api.Test) { t.Init = append(t.Init, begins("abcde")...) }},
		{"many rows", api.ErrBig, func(t *api.Test) { t.Cond.Any = append(t.Cond.Any, slices.Repeat([][]api.Atom{ofThread(0)}, 8)...) }},
		{"many atoms", api.ErrBig, func(t *api.Test) { t.Cond.Any = append(t.Cond.Any, atoms("xxxxxxxxx")) }},
		{"twice in init", api.ErrTwice, func(t *api.Test) { t.Init = append(t.Init, begins("xx")...) }},
		{"a skip of 0", api.ErrJump, func(t *api.Test) { t.Threads[0] = append(t.Threads[0], skip(0), fence) }},
		{"a skip too far", api.ErrJump, func(t *api.Test) { t.Threads[1] = append(t.Threads[1], skip(2), fence) }},
		{"an atom of thread 9", api.ErrJump, func(t *api.Test) { t.Cond.Any = append(t.Cond.Any, ofThread(9)) }},
	}
}

func good() api.Test {
	return api.Test{Name: "a", Init: begins("y"), Threads: [][]api.Ins{{store('x'), skip(1), fence}, {load('y'), fence}},
		Cond: api.Cond{Kind: api.CExists, Any: [][]api.Atom{ofThread(1)}}}
}

func Test5_1FirstError(t *testing.T) {
	if got := Check(good()); got != api.OK {
		t.Fatal(got)
	}
	for i, one := range wrongs() {
		test := good()
		one.spoil(&test)
		holdCheck(t, []edge{{one.name, test, one.code}})
		for j, other := range wrongs() {
			if i == j {
				continue
			}
			test := good()
			one.spoil(&test)
			other.spoil(&test)
			// The errors' own numbers rise as the chapter's sentence tells them.
			holdCheck(t, []edge{{one.name + ", " + other.name, test, min(one.code, other.code)}})
		}
	}
}

func Test5_1NotOk(t *testing.T) {
	holdCheck(t, []edge{
		{"the zero test", api.Test{}, api.ErrArg},
		{"a name with a blank", api.Test{Name: "a b", Threads: threads(1)}, api.ErrArg},
		{"a location 'a' + 256", inThread(store('a' + 256)), api.ErrArg},
		{"a location 'a' + 32", inThread(store('a' + 32)), api.ErrArg},
		{"a skip of the least number", inThread(skip(math.MinInt), fence), api.ErrArg},
		{"an atom of thread -2", asked(ofThread(-2)), api.ErrArg},
		{"rows without a kind", api.Test{Name: "a", Threads: threads(1), Cond: api.Cond{Any: [][]api.Atom{atoms("x")}}}, api.ErrArg},
		{"a kind without rows", asked(), api.ErrArg},
	})
}

func holdRead(t *testing.T, s string, want api.Test, code api.Errno, at int) {
	t.Helper()
	got, err := Read(s)
	if err != (api.Err{Code: code, At: at}) {
		t.Errorf("%q: error %v, want %d at %d", s, err, code, at)
	}
	if !print.Same(got, want) {
		t.Errorf("%q: test %v, want %v", s, got, want)
	}
	if code != api.OK && !reflect.DeepEqual(got, api.Test{}) {
		t.Errorf("%q: %v beside an error", s, got)
	}
}

func Test5_1Read(t *testing.T) {
	holdRead(t, "test a { thread { } }", api.Test{Name: "a", Threads: threads(0)}, api.OK, 0)
	holdRead(t, "test a{init{x=0;}thread{store x 1;}}",
		api.Test{Name: "a", Init: begins("x"), Threads: [][]api.Ins{{store('x')}}}, api.OK, 0)
	holdRead(t, "test a { thread { fence ; } thread { } forall 1 : r3 = 1 | x = 3 & y = 3 ; }",
		api.Test{Name: "a", Threads: threads(1, 0), Cond: api.Cond{Kind: api.CForall, Any: [][]api.Atom{ofThread(1), atoms("xy")}}}, api.OK, 0)
	holdRead(t, print.Test(good()), good(), api.OK, 0)
	for _, refused := range []struct {
		text string
		code api.Errno
		at   int
	}{
		{"", api.ErrSyntax, 0},
		{"test a {", api.ErrSyntax, 8},
		{"test a { thread { store xy 1 ; } }", api.ErrName, 24},
		{"test a { thread { } ? }", api.ErrSign, 20},
		{"test a { thread { r0 = 9223372036854775808 ; } }", api.ErrNum, 23},
		{"test a { thread { skip -1 if 1 == 1 ; } }", api.ErrSyntax, 23},
		{"test a { }" + strings.Repeat(" ", 3991), api.ErrLong, 4000},
		{"test a { thread { } exists 10 : r0 = 1 ; }", api.ErrName, 27},
		// Parse's error comes ahead of whatever Check has to say.
		{"test a { init { x = 1 ; x = 1 ; } thread { skip 0 if 1 == 1 ; } ; }", api.ErrSyntax, 64},
		{"test a { }", api.ErrBig, 0},
		{"  test a { thread { } thread { } thread { } thread { } thread { } }", api.ErrBig, 0},
		{"test a { thread { " + strings.Repeat("fence;", 11) + " } }", api.ErrBig, 0},
		{"test abcdefghijklmnopqrstu { thread { } }", api.ErrBig, 0},
		{" test a { init { x = 1 ; x = 1 ; } thread { } }", api.ErrTwice, 0},
		{" test a { thread { skip 1 if 1 == 1 ; } }", api.ErrJump, 0},
		{" test a { thread { } exists 1 : r0 = 0 ; }", api.ErrJump, 0},
	} {
		holdRead(t, refused.text, api.Test{}, refused.code, refused.at)
	}
	for _, w := range wrongs() {
		test := good()
		w.spoil(&test)
		if w.code != api.ErrArg {
			holdRead(t, print.Test(test), api.Test{}, w.code, 0)
		}
	}
}

func Test5_1Locs(t *testing.T) {
	const all = "abcdefghijklmnopqrstuvwxyz"
	whole := api.Test{Name: "a", Init: begins("zm"), Threads: [][]api.Ins{{store('b'), fence, cas('z')}, nil, {load('n')}},
		Cond: api.Cond{Kind: api.CExists, Any: [][]api.Atom{ofThread(0), atoms("ba"), atoms("y")}}}
	for _, c := range []struct {
		name string
		test api.Test
		want string
	}{
		{"the zero test", api.Test{}, ""},
		{"none", inThread(fence, skip(1), fence), ""},
		{"empty lists", api.Test{Init: []api.Init{}, Threads: [][]api.Ins{{}}, Cond: api.Cond{Any: [][]api.Atom{{}}}}, ""},
		{"out of init", inInit("zay"), "ayz"},
		{"out of instructions", inThread(load('q'), store('c'), cas('d'), load('c')), "cdq"},
		{"out of atoms", asked(atoms("tsts"), atoms("r")), "rst"},
		{"out of registers' atoms", asked(ofThread(0)), ""},
		{"out of all", whole, "abmnyz"},
		{"each letter", inInit(all), all},
		{"each letter, twice, falling", inInit("zyxwvutsrqponmlkjihgfedcba" + all), all},
	} {
		if got := string(Locs(c.test)); got != c.want {
			t.Errorf("%s: %q, want %q", c.name, got, c.want)
		}
	}
}

func Test5_1LocsThatAreNoLetters(t *testing.T) {
	for _, loc := range []int{math.MinInt, math.MinInt32, -256, -159, -64, -1, 0, 'A', 'Z', 'a' - 1, 'a', 'z', 'z' + 1, 'a' + 32, 'a' + 64, 255, 256, 'a' + 256, 'a' + 1<<32, math.MaxInt32, math.MaxInt} {
		want := ""
		if loc == 'a' || loc == 'z' {
			want = string(rune(loc))
		}
		atom := []api.Atom{{Thread: -1, Loc: loc}}
		for name, test := range map[string]api.Test{
			"init":        {Init: []api.Init{{Loc: loc}}},
			"instruction": inThread(store(loc)),
			"atom":        asked(atom),
		} {
			if got := string(Locs(test)); got != want {
				t.Errorf("%s %d: %q, want %q", name, loc, got, want)
			}
			test.Init = append(begins("pc"), test.Init...)
			if got := string(Locs(test)); len(got) != 2+len(want) || !strings.Contains(got, "cp"+strings.Trim(want, "a")) {
				t.Errorf("%s %d with others: %q", name, loc, got)
			}
		}
	}
}

// firstWrong tells the first error of a tree, each asked for on its own.
func firstWrong(t api.Test) api.Errno {
	locs, once, all := map[int]int{}, map[int]int{}, 0
	var big, jump bool
	for _, i := range t.Init {
		locs[i.Loc]++
		once[i.Loc]++
	}
	for _, thread := range t.Threads {
		all += len(thread)
		big = big || len(thread) > 10
		ends := map[int]int{}
		for at := range len(thread) + 1 {
			ends[at] = 1
		}
		for at, i := range thread {
			if i.Kind == api.IStore || i.Kind == api.ILoad || i.Kind == api.ICas {
				locs[i.Loc]++
			}
			jump = jump || i.Kind == api.ISkip && (i.N == 0 || ends[at+1+i.N] == 0)
		}
	}
	for _, row := range t.Cond.Any {
		big = big || len(row) > 8
		for _, a := range row {
			if a.Thread < 0 {
				locs[a.Loc]++
			} else {
				jump = jump || a.Thread > len(t.Threads)-1
			}
		}
	}
	big = big || len(t.Threads) < 1 || len(t.Threads) > 4 || all > 24 || len(locs) > 4 || len(t.Cond.Any) > 8 || len(t.Name) > 20
	switch {
	case big:
		return api.ErrBig
	case len(once) < len(t.Init):
		return api.ErrTwice
	case jump:
		return api.ErrJump
	}
	return api.OK
}

// near makes trees that are about as great as they may be.
func near(r *rand.Rand) api.Test {
	t := api.Test{Name: strings.Repeat("n", 1+r.Intn(10)*r.Intn(3))}
	letters := 2 + r.Intn(5)
	loc := func() int { return 'a' + r.Intn(letters)*5 }
	for range r.Intn(1 + r.Intn(5)) {
		t.Init = append(t.Init, api.Init{Loc: loc(), Value: r.Int63()})
	}
	for range 1 + r.Intn(1+r.Intn(5)) {
		var thread []api.Ins
		for range r.Intn(6 + r.Intn(6)) {
			kinds := []api.Ins{fence, fence, store(loc()), load(loc()), cas(loc()), {Kind: api.ISet, A: api.Operand{Reg: -1}, B: api.Operand{Reg: -1}}}
			if r.Intn(6) == 0 {
				kinds = []api.Ins{skip(r.Intn(1 + r.Intn(6)))}
			}
			thread = append(thread, kinds[r.Intn(len(kinds))])
		}
		t.Threads = append(t.Threads, thread)
	}
	t.Threads = t.Threads[:max(0, len(t.Threads)-r.Intn(40)/39)]
	for range r.Intn(3) * r.Intn(6) {
		t.Cond.Kind = 1 + r.Intn(2)
		var row []api.Atom
		for range 1 + r.Intn(1+r.Intn(9)) {
			row = append(row, append(ofThread(r.Intn(1+r.Intn(5))), atoms(string(rune(loc())))...)[r.Intn(2)])
		}
		t.Cond.Any = append(t.Cond.Any, row)
	}
	return t
}

func Test5_1NearTheBounds(t *testing.T) {
	r := rand.New(rand.NewSource(5))
	seen := map[api.Errno]int{}
	for range 60000 {
		test := near(r)
		want := firstWrong(test)
		seen[want]++
		if got := Check(test); got != want {
			t.Fatalf("Check is %d, want %d: %v", got, want, test)
		}
		if text := print.Test(test); len(text) <= api.MaxText {
			if want == api.OK {
				holdRead(t, text, test, api.OK, 0)
			} else {
				holdRead(t, text, api.Test{}, want, 0)
			}
		}
	}
	for _, code := range []api.Errno{api.OK, api.ErrBig, api.ErrTwice, api.ErrJump} {
		if seen[code] < 1000 {
			t.Errorf("only %d tests with %d", seen[code], code)
		}
	}
}

// holdBounds asks of a test that was taken what the layers behind rely on.
func holdBounds(t *testing.T, test api.Test) {
	t.Helper()
	all := 0
	for _, thread := range test.Threads {
		all += len(thread)
		for at, i := range thread {
			if i.Kind == api.ISkip && (i.N < 1 || i.N > 9 || at+1+i.N > len(thread)) {
				t.Errorf("a skip of %d at %d of %d was taken", i.N, at, len(thread))
			}
		}
		if len(thread) > api.MaxIns {
			t.Error("a long thread was taken", len(thread))
		}
	}
	sum := 0
	for _, row := range test.Cond.Any {
		sum += len(row)
		for _, a := range row {
			if a.Thread < -1 || a.Thread >= len(test.Threads) {
				t.Error("an atom of no thread was taken", a)
			}
		}
	}
	if n := len(test.Threads); n < 1 || n > api.MaxThreads || all > api.MaxAll || len(Locs(test)) > api.MaxLocs ||
		len(test.Init) > api.MaxLocs || sum > 64 || len(test.Name) > 20 || !print.Ok(test) {
		t.Errorf("taken: %v", test)
	}
}

func Test5_2Bounded(t *testing.T) {
	r := rand.New(rand.NewSource(52))
	taken := 0
	for range 20000 {
		test := near(r)
		if Check(test) == api.OK {
			taken++
			holdBounds(t, test)
		}
	}
	if taken < 2000 {
		t.Error("only", taken, "were taken")
	}
	// The greatest text that is taken at all has all at its bounds.
	whole := api.Test{Name: strings.Repeat("n", 20), Init: begins("wxyz"), Threads: threads(6, 6, 6, 6),
		Cond: api.Cond{Kind: api.CForall, Any: slices.Repeat([][]api.Atom{atoms("wxyzwxyz")}, 8)}}
	if got := Check(whole); got != api.OK {
		t.Error("all at its bounds:", got)
	}
	holdBounds(t, whole)
	holdRead(t, print.Test(whole), whole, api.OK, 0)
}

// W9: any text is a test, or refused at a place.
func Test5_2AnyText(t *testing.T) {
	r := rand.New(rand.NewSource(9))
	words := strings.Fields("test a { } init thread exists forall x = 1 ; store r0 load fence cas skip if == 0 : & | + -1 r9 ? 99999999999999999999 \x00 é")
	texts := []string{"", "\x00", "\xff\xfe", strings.Repeat("{", 4000), strings.Repeat("test a { ", 1000)}
	for range 20000 {
		var text []string
		if r.Intn(2) == 0 {
			text = strings.Fields(print.Test(near(r)))
		}
		for range r.Intn(4) {
			at := r.Intn(len(text) + 1)
			text = slices.Insert(text, at, words[r.Intn(len(words))])
		}
		texts = append(texts, strings.Join(text, " "))
	}
	for _, s := range texts {
		test, err := Read(s)
		if err.Code == api.OK {
			holdBounds(t, test)
			continue
		}
		tree, at := parse.Parse(s)
		if at.Code == api.OK {
			at = api.Err{Code: firstWrong(tree)}
		}
		if err != at || err.At < 0 || err.At > len(s) || !reflect.DeepEqual(test, api.Test{}) {
			t.Errorf("%q: %v, want %v", s, err, at)
		}
	}
}

func Test5_3NoPanic(t *testing.T) {
	r := rand.New(rand.NewSource(53))
	odd := []int{math.MinInt, -256, -2, -1, 0, 1, 2, 3, 4, 5, 6, 7, 9, 10, 'a', 'z', 128, 256 + 'a', math.MaxInt - 1, math.MaxInt}
	any := func() int { return odd[r.Intn(len(odd))] }
	for range 20000 {
		test := api.Test{Name: strings.Repeat("a\x00"[:1+r.Intn(2)], r.Intn(3)), Cond: api.Cond{Kind: any()}}
		for range r.Intn(4) {
			test.Init = append(test.Init, api.Init{Loc: any(), Value: int64(any())})
			test.Threads = append(test.Threads, []api.Ins{{Kind: any(), Reg: any(), Loc: any(), N: any(), Op: any(), A: api.Operand{Reg: any()}, B: api.Operand{Reg: any()}}})
			test.Cond.Any = append(test.Cond.Any, []api.Atom{{Thread: any(), Reg: any(), Loc: any(), Value: int64(any())}})
		}
		want := api.ErrArg
		if print.Ok(test) {
			want = firstWrong(test)
		}
		if got := Check(test); got != want {
			t.Fatalf("Check is %d, want %d: %v", got, want, test)
		}
		if locs := Locs(test); !slices.IsSorted(locs) || len(slices.Compact(locs)) != len(locs) {
			t.Fatalf("Locs %q: %v", locs, test)
		}
	}
}

func Test5_3EndsOnGreatTests(t *testing.T) {
	const many = 300000
	great := api.Test{Name: strings.Repeat("a", many), Init: slices.Repeat(begins("x"), many), Threads: slices.Repeat(threads(1), many),
		Cond: api.Cond{Kind: api.CExists, Any: slices.Repeat([][]api.Atom{atoms("x")}, many)}}
	holdCheck(t, []edge{
		{"all great", great, api.ErrBig},
		{"a great thread", inThread(slices.Repeat([]api.Ins{store('x')}, many)...), api.ErrBig},
		{"a great row", asked(slices.Repeat(atoms("x"), many)), api.ErrBig},
		{"a great init", inInit(strings.Repeat("x", many)), api.ErrTwice},
	})
	if got := string(Locs(great)); got != "x" {
		t.Error(got)
	}
	holdRead(t, strings.Repeat("test ", many), api.Test{}, api.ErrLong, 4000)
}

func Test5_3LeavesWhatItIsGiven(t *testing.T) {
	test, before := good(), good()
	test.Init = append(test.Init, api.Init{Loc: 'x', Value: 5})[:1]
	test.Threads = append(test.Threads, fences(2))[:2]
	test.Cond.Any = append(test.Cond.Any, atoms("q"))[:1]
	if Check(test) != api.OK || string(Locs(test)) != "xy" {
		t.Error("spare room counts")
	}
	if !reflect.DeepEqual(test, before) || test.Init[:2][1] != (api.Init{Loc: 'x', Value: 5}) ||
		len(test.Threads[:3][2]) != 2 || test.Cond.Any[:2][1][0].Loc != 'q' {
		t.Error("what was handed in is changed")
	}
	first := Locs(test)
	for at := range first[:cap(first)] {
		first[:cap(first)][at] = '!'
	}
	if got := string(Locs(test)); got != "xy" {
		t.Errorf("an answer is not new: %q", got)
	}
	text := print.Test(test)
	one, _ := Read(text)
	one.Init[0].Loc, one.Threads[0][0] = 'q', fence
	if two, _ := Read(text); !print.Same(two, before) {
		t.Error("an answer of Read is not new")
	}
}
