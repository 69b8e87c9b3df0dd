package allow

import (
	"maps"
	"math"
	"math/rand"
	"slices"
	"strconv"
	"strings"
	"testing"

	"jacquard/api"
	"jacquard/axiom"
	"jacquard/final"
	"jacquard/num"
	"jacquard/print"
	"jacquard/prog"
	"jacquard/well"
)

const most, least = math.MaxInt64, math.MinInt64

var models = []int{api.MSC, api.MTSO, api.MPSO}

// strangers are no models. Some of them are 1 to 3 when they are cut to few bits.
var strangers = []int{0, 4, 5, 6, 7, 8, -1, -2, -3, 63, 64, 65, 66, 67, 255, 256, 257, 1 << 32, 1<<32 + 1, 1<<32 + 2, -1 << 32, math.MinInt, math.MinInt + 1, math.MinInt + 2, math.MaxInt - 1, math.MaxInt}

func number(n int64) api.Operand { return api.Operand{Reg: -1, Value: n} }

func register(r int) api.Operand { return api.Operand{Reg: r} }

func ready(t *testing.T, test api.Test) api.Prog {
	t.Helper()
	p, code := prog.Compile(test)
	if code != api.OK {
		t.Fatal(code, print.Test(test))
	}
	return p
}

func compile(t *testing.T, body string) api.Prog {
	t.Helper()
	test, err := well.Read("test a { " + body + " }")
	if err.Code != api.OK {
		t.Fatalf("%q: %v", body, err)
	}
	return ready(t, test)
}

// short is each of l as text without what is 0.
func short(p api.Prog, l []api.Final) []string {
	var texts []string
	for _, f := range l {
		var parts []string
		for part := range strings.FieldsSeq(final.Text(p, f)) {
			if !strings.HasSuffix(part, "=0") {
				parts = append(parts, part)
			}
		}
		texts = append(texts, strings.Join(parts, " "))
	}
	return texts
}

// same is what a program comes to if no model lets more be than plain memory.
func same(ends ...string) [3][]string { return [3][]string{ends, ends, ends} }

// ends is what programs come to, as it stands on paper: by each model, without
// what is 0.
var ends = map[string][3][]string{
	"thread { }": same(""),
	"thread { } thread { } thread { } thread { }":                same(""),
	"thread { fence ; } thread { r1 = 7 ; }":                     same("1:r1=7"),
	"thread { skip 1 if 0 == 0 ; r1 = 7 ; r2 = 8 ; }":            same("0:r2=8"),
	"init { x = 7 ; } thread { }":                                same("x=7"),
	"thread { } exists y = 1 & x = 2 ;":                          same(""),
	"init { x = -3 ; } thread { r3 = load x ; }":                 same("0:r3=-3 x=-3"),
	"thread { store x 1 ; r0 = load x ; }":                       same("0:r0=1 x=1"),
	"thread { store x 1 ; store x 2 ; r0 = load x ; }":           same("0:r0=2 x=2"),
	"thread { store x 1 ; } thread { store x 2 ; }":              same("x=1", "x=2"),
	"thread { store x 1 ; } thread { } thread { r0 = load x ; }": same("x=1", "2:r0=1 x=1"),
	"thread { r0 = load x ; r1 = r0 + 1 ; store y r1 ; }":        same("0:r1=1 y=1"),
	"init { x = 9223372036854775807 ; y = -9223372036854775808 ; } thread { r0 = load x ; r0 = r0 + 1 ; } thread { r0 = load y ; r0 = r0 - 1 ; }": same(
		"0:r0=-9223372036854775808 1:r0=9223372036854775807 x=9223372036854775807 y=-9223372036854775808"),
	// An init for each location, and a thread for each of them.
	"init { z = 4 ; w = 1 ; y = 3 ; x = 2 ; } thread { r0 = load z ; } thread { r1 = load y ; } thread { r2 = load x ; } thread { r3 = load w ; }": same(
		"0:r0=4 1:r1=3 2:r2=2 3:r3=1 w=1 x=2 y=3 z=4"),
	// A compare that finds its number, and one that does not.
	"thread { r0 = cas x 0 1 ; } thread { r0 = cas x 0 2 ; }":                                                     same("1:r0=1 x=1", "0:r0=2 x=2"),
	"init { x = 4 ; } thread { r0 = cas x 4 6 ; } thread { r0 = cas x 6 5 ; }":                                    same("0:r0=4 1:r0=4 x=6", "0:r0=4 1:r0=6 x=5"),
	"thread { r0 = cas x 0 0 ; r1 = cas x 5 1 ; } thread { r0 = cas x 0 0 ; }":                                    same(""),
	"thread { store x 1 ; r1 = cas z 0 0 ; r0 = load y ; } thread { store y 1 ; r1 = cas z 0 0 ; r0 = load x ; }": same("1:r0=1 x=1 y=1", "0:r0=1 x=1 y=1", "0:r0=1 1:r0=1 x=1 y=1"),
	// A skip hangs on what was read.
	"thread { r0 = load x ; skip 1 if r0 == 0 ; store y 1 ; } thread { store x 5 ; }": same("x=5", "0:r0=5 x=5 y=1"),
	// Each adds one.
	"thread { r0 = load x ; r0 = r0 + 1 ; store x r0 ; } thread { r0 = load x ; r0 = r0 + 1 ; store x r0 ; }": same("0:r0=1 1:r0=1 x=1", "0:r0=1 1:r0=2 x=2", "0:r0=2 1:r0=1 x=2"),
	// Each loads, and then stores.
	"thread { r0 = load x ; store y 1 ; } thread { r0 = load y ; store x 1 ; }": same("x=1 y=1", "1:r0=1 x=1 y=1", "0:r0=1 x=1 y=1"),
	// Each stores, and then loads what the other has stored.
	"thread { store x 1 ; r0 = load y ; } thread { store y 1 ; r0 = load x ; }": {
		{"1:r0=1 x=1 y=1", "0:r0=1 x=1 y=1", "0:r0=1 1:r0=1 x=1 y=1"},
		{"x=1 y=1", "1:r0=1 x=1 y=1", "0:r0=1 x=1 y=1", "0:r0=1 1:r0=1 x=1 y=1"},
		{"x=1 y=1", "1:r0=1 x=1 y=1", "0:r0=1 x=1 y=1", "0:r0=1 1:r0=1 x=1 y=1"}},
	"thread { store x 1 ; fence ; r0 = load y ; } thread { store y 1 ; r0 = load x ; }": {
		{"1:r0=1 x=1 y=1", "0:r0=1 x=1 y=1", "0:r0=1 1:r0=1 x=1 y=1"},
		{"x=1 y=1", "1:r0=1 x=1 y=1", "0:r0=1 x=1 y=1", "0:r0=1 1:r0=1 x=1 y=1"},
		{"x=1 y=1", "1:r0=1 x=1 y=1", "0:r0=1 x=1 y=1", "0:r0=1 1:r0=1 x=1 y=1"}},
	"thread { store x 1 ; fence ; r0 = load y ; } thread { store y 1 ; fence ; r0 = load x ; }": same("1:r0=1 x=1 y=1", "0:r0=1 x=1 y=1", "0:r0=1 1:r0=1 x=1 y=1"),
	// The same, where nothing is left of what was loaded.
	"thread { store x 1 ; r0 = load y ; r0 = 0 ; } thread { store y 1 ; r0 = load x ; r0 = 0 ; }": same("x=1 y=1"),
	// One stores twice, the other loads both.
	"thread { store x 1 ; store y 1 ; } thread { r0 = load y ; r1 = load x ; }": {
		{"x=1 y=1", "1:r1=1 x=1 y=1", "1:r0=1 1:r1=1 x=1 y=1"},
		{"x=1 y=1", "1:r1=1 x=1 y=1", "1:r0=1 1:r1=1 x=1 y=1"},
		{"x=1 y=1", "1:r1=1 x=1 y=1", "1:r0=1 x=1 y=1", "1:r0=1 1:r1=1 x=1 y=1"}},
	"thread { store x 1 ; fence ; store y 1 ; } thread { r0 = load y ; r1 = load x ; }": same("x=1 y=1", "1:r1=1 x=1 y=1", "1:r0=1 1:r1=1 x=1 y=1"),
	// Each stores both.
	"thread { store x 1 ; store y 2 ; } thread { store y 1 ; store x 2 ; }": {
		{"x=1 y=2", "x=2 y=1", "x=2 y=2"},
		{"x=1 y=2", "x=2 y=1", "x=2 y=2"},
		{"x=1 y=1", "x=1 y=2", "x=2 y=1", "x=2 y=2"}},
	// A thread sees its own store ahead of others; and it is late itself.
	"thread { store x 1 ; r0 = load x ; r1 = load y ; } thread { store y 1 ; store x 2 ; }": {
		{"0:r0=1 x=2 y=1", "0:r0=1 0:r1=1 x=1 y=1", "0:r0=1 0:r1=1 x=2 y=1", "0:r0=2 0:r1=1 x=2 y=1"},
		{"0:r0=1 x=1 y=1", "0:r0=1 x=2 y=1", "0:r0=1 0:r1=1 x=1 y=1", "0:r0=1 0:r1=1 x=2 y=1", "0:r0=2 0:r1=1 x=2 y=1"},
		{"0:r0=1 x=1 y=1", "0:r0=1 x=2 y=1", "0:r0=1 0:r1=1 x=1 y=1", "0:r0=1 0:r1=1 x=2 y=1", "0:r0=2 x=2 y=1", "0:r0=2 0:r1=1 x=2 y=1"}},
}

// holdEnds holds all calls to what they must answer of p by m: just those ends,
// from so many executions, and plain ends if they are all.
func holdEnds(t *testing.T, p api.Prog, m int, want []api.Final, count int, robust bool) {
	t.Helper()
	if got, ok := Finals(p, m); !ok || !slices.Equal(got, want) {
		t.Fatalf("%v, model %d: %v\n%s\nwant\n%s", p, m, ok, strings.Join(short(p, got), "\n"), strings.Join(short(p, want), "\n"))
	}
	if got, ok := Count(p, m); !ok || got != count {
		t.Fatalf("%v, model %d: Count %d %v, want %d", p, m, got, ok, count)
	}
	if got, ok := Robust(p, m); !ok || got != robust {
		t.Fatalf("%v, model %d: Robust %v %v, want %v", p, m, got, ok, robust)
	}
}

// holdUntold holds all calls to tell nothing.
func holdUntold(t *testing.T, p api.Prog, m int) {
	t.Helper()
	if got, ok := Finals(p, m); ok || got != nil {
		t.Errorf("model %d: %v, %d ends", m, ok, len(got))
	}
	if got, ok := Count(p, m); ok || got != 0 {
		t.Errorf("model %d: Count %d %v", m, got, ok)
	}
	if got, ok := Robust(p, m); ok || got {
		t.Errorf("model %d: Robust %v %v", m, got, ok)
	}
}

// byLayers is what the layers below say of p: the ends of all executions, and
// how many there are.
func byLayers(t *testing.T, p api.Prog, m int) ([]api.Final, int) {
	t.Helper()
	all, ok := axiom.All(p, m, 100_000)
	if !ok {
		t.Fatal("too many executions:", p, m)
	}
	var l []api.Final
	for _, x := range all {
		l = append(l, final.Of(p, x))
	}
	return final.Sort(l), len(all)
}

// holdByLayers holds all calls to the layers below.
func holdByLayers(t *testing.T, p api.Prog) {
	t.Helper()
	plain, _ := byLayers(t, p, api.MSC)
	for _, m := range models {
		want, count := byLayers(t, p, m)
		holdEnds(t, p, m, want, count, slices.Equal(want, plain))
	}
}

func Test14_1Finals(t *testing.T) {
	for body, by := range ends {
		p := compile(t, body)
		for at, m := range models {
			got, ok := Finals(p, m)
			if !ok || !slices.Equal(short(p, got), by[at]) {
				t.Errorf("%q, model %d: %v\n%s\nwant\n%s", body, m, ok, strings.Join(short(p, got), "\n"), strings.Join(by[at], "\n"))
			}
		}
		holdByLayers(t, p)
	}
}

// How many there are, by a reckoning on paper; -1: more than are gone through.
func Test14_1Count(t *testing.T) {
	rep := strings.Repeat
	same := func(n int) [3]int { return [3]int{n, n, n} }
	for body, want := range map[string][3]int{
		"thread { }": same(1),
		"thread { } thread { r0 = 1 ; } thread { fence ; }":                                                              same(1),
		"init { x = 7 ; } thread { }":                                                                                    same(1),
		"thread { r0 = load x ; }":                                                                                       same(1),
		"thread { store x 1 ; } thread { store x 1 ; }":                                                                  same(2),
		"thread { store x 0 ; } thread { r0 = load x ; }":                                                                same(2),
		rep("thread { r0 = cas x 0 0 ; } ", 4):                                                                           same(24),
		rep("thread { r0 = cas x 0 1 ; } ", 4):                                                                           same(4),
		rep("thread { r0 = cas x 7 1 ; } ", 4):                                                                           same(1),
		rep("thread { "+rep("r0 = load x ; ", 6)+"} ", 4):                                                                same(1),
		"thread { " + rep("store x 1 ; ", 10) + "}":                                                                      same(1),
		rep("thread { "+rep("store x 1 ; ", 4)+"} ", 3):                                                                  same(34650),
		rep("thread { "+rep("store x 1 ; ", 5)+"} ", 3):                                                                  same(-1),
		"thread { store x 1 ; r0 = load y ; } thread { store y 1 ; r0 = load x ; }":                                      {3, 4, 4},
		"thread { store x 1 ; store y 1 ; } thread { r0 = load y ; r1 = load x ; }":                                      {3, 3, 4},
		"thread { store x 1 ; r0 = load y ; } thread { store y 1 ; r0 = load z ; } thread { store z 1 ; r0 = load x ; }": {7, 8, 8},
		"thread { store x 1 ; } thread { store y 1 ; } thread { r0 = load x ; r1 = load y ; } thread { r0 = load y ; r1 = load x ; }": same(15),
		"thread { store w 1 ; store x 1 ; store y 1 ; store z 1 ; } thread { store z 1 ; store y 1 ; store x 1 ; store w 1 ; }":       {5, 5, 16},
	} {
		p := compile(t, body)
		for at, m := range models {
			if want[at] == -1 {
				holdUntold(t, p, m)
			} else if got, ok := Count(p, m); !ok || got != want[at] {
				t.Errorf("%q, model %d: %d %v, want %d", body, m, got, ok, want[at])
			}
		}
	}
}

func Test14_1Robust(t *testing.T) {
	all, notThird, first := [3]bool{true, true, true}, [3]bool{true, true, false}, [3]bool{true, false, false}
	for body, want := range map[string][3]bool{
		"thread { }": all,
		"thread { r0 = 1 ; } thread { r0 = 2 ; }":                                                                                     all,
		"thread { store x 1 ; r0 = load x ; r1 = load y ; store y 2 ; }":                                                              all,
		"thread { store x 1 ; } thread { store y 1 ; }":                                                                               all,
		"thread { store x 1 ; store x 2 ; } thread { r0 = load x ; r1 = load x ; }":                                                   all,
		"thread { r0 = load x ; store y 1 ; } thread { r0 = load y ; store x 1 ; }":                                                   all,
		"thread { store x 1 ; fence ; r0 = load y ; } thread { store y 1 ; fence ; r0 = load x ; }":                                   all,
		"thread { store x 1 ; r1 = cas z 0 0 ; r0 = load y ; } thread { store y 1 ; r1 = cas z 5 0 ; r0 = load x ; }":                 all,
		"thread { store x 1 ; } thread { store y 1 ; } thread { r0 = load x ; r1 = load y ; } thread { r0 = load y ; r1 = load x ; }": all,
		// There are more executions, but they come to no other ends.
		"thread { store x 1 ; r0 = load y ; r0 = 0 ; } thread { store y 1 ; r0 = load x ; r0 = 0 ; }":                     all,
		"thread { store x 0 ; r0 = load y ; } thread { store y 0 ; r0 = load x ; }":                                       all,
		"thread { store x 1 ; store y 1 ; } thread { r0 = load y ; r1 = load x ; r0 = r1 ; }":                             all,
		"init { x = 1 ; y = 1 ; } thread { store x 1 ; store y 1 ; } thread { store y 1 ; store x 1 ; }":                  all,
		"thread { store x 1 ; store y 1 ; } thread { r0 = load y ; r1 = load x ; }":                                       notThird,
		"thread { store x 1 ; store y 2 ; } thread { store y 1 ; store x 2 ; }":                                           notThird,
		"thread { store x 1 ; store y 1 ; } thread { r0 = load y ; fence ; r1 = load x ; }":                               notThird,
		"thread { store x 1 ; store y 1 ; } thread { r0 = cas y 1 2 ; r1 = load x ; }":                                    notThird,
		"thread { store z 1 ; store x 1 ; } thread { r0 = load x ; store y r0 ; } thread { r0 = load y ; r1 = load z ; }": notThird,
		"thread { store x 1 ; r0 = load y ; } thread { store y 1 ; r0 = load x ; }":                                       first,
		"thread { store x 1 ; fence ; r0 = load y ; } thread { store y 1 ; r0 = load x ; }":                               first,
		"thread { store x 1 ; r0 = load x ; r1 = load y ; } thread { store y 1 ; store x 2 ; }":                           first,
		"thread { store x 1 ; r0 = load y ; } thread { r0 = cas y 0 1 ; store y 2 ; r1 = load x ; }":                      first,
		"thread { store x 1 ; r0 = load y ; } thread { store y 1 ; r0 = load z ; } thread { store z 1 ; r0 = load x ; }":  first,
		"thread { } thread { store x 1 ; r0 = load y ; } thread { } thread { store y 1 ; r0 = load x ; }":                 first,
	} {
		p := compile(t, body)
		for at, m := range models {
			if got, ok := Robust(p, m); !ok || got != want[at] {
				t.Errorf("%q, model %d: %v %v, want %v", body, m, got, ok, want[at])
			}
		}
		holdByLayers(t, p)
	}
}

// near has, by a model, as many executions as are gone through, one fewer or one
// more. Nothing in them tells the models apart.
var near = []struct {
	m, count int
	body     string
}{
	{api.MSC, 99_999, `thread { r0 = load z ; skip 3 if r0 == 0 ; store x 1 ; r1 = load x ; skip 4 if r0 == 1 ; r1 = load y ; r1 = load x ; store y 1 ; r1 = load x ; }
		thread { store z 1 ; r1 = load x ; } thread { store y 1 ; store x 1 ; store y 1 ; store y 1 ; store x 1 ; store x 1 ; store x 1 ; }
		thread { store x 1 ; r1 = load y ; r1 = load x ; r1 = load x ; }`},
	{api.MTSO, 100_000, `thread { r0 = load z ; skip 3 if r0 == 0 ; r1 = load x ; store x 1 ; skip 4 if r0 == 1 ; r1 = load x ; store x 1 ; store y 1 ; r1 = load y ; }
		thread { store z 1 ; r1 = load x ; } thread { store x 1 ; store x 1 ; store x 1 ; store y 1 ; store y 1 ; store y 1 ; store y 1 ; }
		thread { r1 = load x ; r1 = load y ; store y 1 ; }`},
	{api.MTSO, 100_001, `thread { r0 = load z ; skip 3 if r0 == 0 ; store x 1 ; store x 1 ; skip 4 if r0 == 1 ; r1 = load x ; store x 1 ; store y 1 ; store y 1 ; }
		thread { store z 1 ; r1 = load x ; r1 = load y ; } thread { store y 1 ; store y 1 ; store y 1 ; store x 1 ; store y 1 ; store x 1 ; store x 1 ; store x 1 ; }
		thread { r1 = load y ; r1 = load x ; store y 1 ; }`},
}

func Test14_1AtTheLimit(t *testing.T) {
	for _, x := range near {
		t.Run(strconv.Itoa(x.count), func(t *testing.T) {
			t.Parallel()
			p := compile(t, x.body)
			if x.count > 100_000 {
				holdUntold(t, p, x.m)
				return
			}
			want, _ := byLayers(t, p, x.m)
			if len(want) < 2 {
				t.Error(short(p, want))
			}
			holdEnds(t, p, x.m, want, x.count, true)
		})
	}
}

// What plain memory comes to is told, what the third model comes to is not: so it
// can't be told if they are the same.
func Test14_1OneOfTwoIsTold(t *testing.T) {
	rep := strings.Repeat
	const up, down = "store w 1 ; store x 1 ; store y 1 ; store z 1 ; ", "store z 1 ; store y 1 ; store x 1 ; store w 1 ; "
	p := compile(t, "thread { "+rep(up, 2)+"} thread { "+rep(down, 2)+"} thread { "+down+"}")
	end := api.Final{Mem: [4]int64{1, 1, 1, 1}}
	for _, m := range models[:2] {
		holdEnds(t, p, m, []api.Final{end}, 12_526, true)
	}
	holdUntold(t, p, api.MPSO)
}

// 12.2 lets nothing be by no model, and that is told: there are no ends, and no
// executions, and that is not what plain memory comes to.
func Test14_1NoModel(t *testing.T) {
	for body := range ends {
		p := compile(t, body)
		for _, m := range strangers {
			holdEnds(t, p, m, nil, 0, false)
		}
	}
	// What plain memory comes to can't be told here.
	p := compile(t, strings.Repeat("thread { "+strings.Repeat("store x 1 ; ", 6)+"} ", 4))
	for _, m := range strangers[:7] {
		got, ok := Finals(p, m)
		count, told := Count(p, m)
		if !ok || got != nil || !told || count != 0 {
			t.Errorf("model %d: %v %v, %v %d", m, ok, got, told, count)
		}
		if robust, ok := Robust(p, m); ok || robust {
			t.Errorf("model %d: Robust %v %v", m, robust, ok)
		}
	}
}

// anyTest makes small tests in which threads often meet.
func anyTest(r *rand.Rand, threads, length int) api.Test {
	locs := "xyza"[:1+r.Intn(4)]
	operand := func() api.Operand {
		if r.Intn(3) > 0 {
			return number([]int64{0, 0, 1, 1, 2, -1, most, least}[r.Intn(8)])
		}
		return register(r.Intn(4))
	}
	t := api.Test{Name: "a"}
	for _, place := range r.Perm(len(locs))[:r.Intn(len(locs)+1)] {
		t.Init = append(t.Init, api.Init{Loc: int(locs[place]), Value: int64(r.Intn(5) - 2)})
	}
	for range 1 + r.Intn(threads) {
		list := make([]api.Ins, r.Intn(length+1))
		for at := range list {
			list[at] = anyIns(r, operand, int(locs[r.Intn(len(locs))]), len(list)-at-1)
		}
		t.Threads = append(t.Threads, list)
	}
	return t
}

// anyIns has left instructions behind it.
func anyIns(r *rand.Rand, operand func() api.Operand, loc, left int) api.Ins {
	switch kind := r.Intn(11); {
	case kind < 3:
		return api.Ins{Kind: api.IStore, Loc: loc, A: operand()}
	case kind < 6:
		return api.Ins{Kind: api.ILoad, Reg: r.Intn(4), Loc: loc}
	case kind < 8:
		return api.Ins{Kind: api.ICas, Reg: r.Intn(4), Loc: loc, A: operand(), B: operand()}
	case kind == 8:
		return api.Ins{Kind: api.IFence}
	case kind == 9 && left > 0:
		return api.Ins{Kind: api.ISkip, A: operand(), B: operand(), N: 1 + r.Intn(left)}
	}
	i := api.Ins{Kind: api.ISet, Reg: r.Intn(4), A: operand(), B: number(0)}
	if i.Op = r.Intn(7); i.Op > 0 {
		i.B = operand()
	}
	return i
}

// weakTest makes tests in which models often are not of one mind: nearly all is
// stores and loads of two locations, each into a register of its own.
func weakTest(r *rand.Rand, threads int) api.Test {
	t := api.Test{Name: "a"}
	for range threads {
		list := make([]api.Ins, 2+r.Intn(5-threads))
		for at := range list {
			loc := int("xy"[r.Intn(2)])
			switch kind := r.Intn(16); {
			case kind == 0:
				list[at] = api.Ins{Kind: api.IFence}
			case kind == 1:
				list[at] = api.Ins{Kind: api.ICas, Reg: at, Loc: loc, A: number(0), B: number(1)}
			case kind < 9:
				list[at] = api.Ins{Kind: api.IStore, Loc: loc, A: number(int64(1 + r.Intn(2)))}
			default:
				list[at] = api.Ins{Kind: api.ILoad, Reg: at, Loc: loc}
			}
		}
		t.Threads = append(t.Threads, list)
	}
	return t
}

// manyPrograms is the programs of ends and, behind them, as many others, of at
// most so many threads of so many instructions.
func manyPrograms(t *testing.T, r *rand.Rand, others, threads, length int) []api.Prog {
	t.Helper()
	var list []api.Prog
	for _, body := range slices.Sorted(maps.Keys(ends)) {
		list = append(list, compile(t, body))
	}
	for round := range others {
		test := anyTest(r, threads, length)
		if round%2 == 0 {
			test = weakTest(r, 2+r.Intn(2))
		}
		list = append(list, ready(t, test))
	}
	return list
}

// All calls of any program, held against the layers below.
func Test14_1OfAny(t *testing.T) {
	r := rand.New(rand.NewSource(141))
	threads, robust := map[int]int{}, map[[3]bool]int{}
	for _, p := range manyPrograms(t, r, 3000, 4, 4) {
		if _, ok := axiom.All(p, api.MPSO, 200); !ok {
			continue
		}
		holdByLayers(t, p)
		threads[len(p.Threads)]++
		var by [3]bool
		for at, m := range models {
			by[at], _ = Robust(p, m)
		}
		robust[by]++
	}
	if threads[1] < 150 || threads[2] < 500 || threads[3] < 500 || threads[4] < 150 {
		t.Error(threads)
	}
	if len(robust) != 3 || robust[[3]bool{true, true, true}] < 300 || robust[[3]bool{true, true, false}] < 100 || robust[[3]bool{true, false, false}] < 100 {
		t.Error(robust)
	}
}

// machine does one instruction of a thread after the other, or lets a store that
// waits come to memory: in one row for each thread (MTSO), or in one for each of
// its locations (MPSO). It knows nothing of executions.
type machine struct {
	p    api.Prog
	m    int
	seen map[state]int
	ends map[api.Final]int
}

// state is where a machine is: what threads have come to, and what waits.
type state struct {
	pc    [4]int
	f     api.Final
	count [4]int
	waits [4][10]waiting
}

type waiting struct {
	loc   int
	value int64
}

func (v *machine) from(s state) {
	if v.seen[s]++; v.seen[s] > 1 {
		return
	}
	ended := true
	for k, list := range v.p.Threads {
		if s.pc[k] < len(list) {
			ended = false
			v.do(s, k, list[s.pc[k]])
		}
		for at := range s.count[k] {
			ended = false
			if v.first(s, k, at) {
				v.from(flushed(s, k, at))
			}
		}
	}
	if ended {
		v.ends[s.f]++
	}
}

// first tells if nothing that waits of thread k keeps that at at from memory.
func (v *machine) first(s state, k, at int) bool {
	for _, w := range s.waits[k][:at] {
		if v.m == api.MTSO || w.loc == s.waits[k][at].loc {
			return false
		}
	}
	return true
}

func flushed(s state, k, at int) state {
	w := s.waits[k][at]
	s.f.Mem[w.loc] = w.value
	s.count[k]--
	copy(s.waits[k][at:], s.waits[k][at+1:])
	s.waits[k][9] = waiting{}
	return s
}

// of is the number that o is where regs stand.
func of(o api.Operand, regs [4]int64) int64 {
	if o.Reg == -1 {
		return o.Value
	}
	return regs[o.Reg]
}

func (v *machine) do(s state, k int, i api.Ins) {
	regs := s.f.Regs[k]
	if (i.Kind == api.IFence || i.Kind == api.ICas) && s.count[k] > 0 {
		return
	}
	s.pc[k]++
	switch i.Kind {
	case api.ISet:
		n, ok := num.Do(i.Op, of(i.A, regs), of(i.B, regs))
		if !ok {
			n = of(i.A, regs)
		}
		s.f.Regs[k][i.Reg] = n
	case api.ISkip:
		if of(i.A, regs) == of(i.B, regs) {
			s.pc[k] += i.N
		}
	case api.IStore:
		if v.m == api.MSC {
			s.f.Mem[i.Loc] = of(i.A, regs)
			break
		}
		s.waits[k][s.count[k]] = waiting{i.Loc, of(i.A, regs)}
		s.count[k]++
	case api.ILoad:
		s.f.Regs[k][i.Reg] = s.f.Mem[i.Loc]
		for _, w := range s.waits[k][:s.count[k]] {
			if w.loc == i.Loc {
				s.f.Regs[k][i.Reg] = w.value
			}
		}
	case api.ICas:
		s.f.Regs[k][i.Reg] = s.f.Mem[i.Loc]
		if s.f.Mem[i.Loc] == of(i.A, regs) {
			s.f.Mem[i.Loc] = of(i.B, regs)
		}
	}
	v.from(s)
}

// byMachine is all that a machine comes to.
func byMachine(p api.Prog, m int) map[api.Final]int {
	v := &machine{p: p, m: m, seen: map[state]int{}, ends: map[api.Final]int{}}
	var s state
	copy(s.f.Mem[:], p.Init)
	v.from(s)
	return v.ends
}

// W3: what may be by relations is what machines come to, and no more.
func Test14_2TwoRoads(t *testing.T) {
	r := rand.New(rand.NewSource(142))
	several := [4]int{}
	for _, p := range manyPrograms(t, r, 1500, 3, 4) {
		plain := byMachine(p, api.MSC)
		for _, m := range models {
			want := byMachine(p, m)
			got, ok := Finals(p, m)
			if !ok || len(got) != len(want) {
				t.Fatalf("%v, model %d: %v, %d ends, want %d", p, m, ok, len(got), len(want))
			}
			for at, f := range got {
				if want[f] == 0 || at > 0 && !final.Less(got[at-1], f) {
					t.Fatalf("%v, model %d: no machine comes to %s, or not there", p, m, final.Text(p, f))
				}
			}
			// Plain memory's ends are among those of m.
			if robust, ok := Robust(p, m); !ok || robust != (len(want) == len(plain)) {
				t.Fatalf("%v, model %d: %v %v, %d ends, plain %d", p, m, robust, ok, len(want), len(plain))
			}
			if len(want) > len(plain) {
				several[m]++
			}
		}
	}
	if several[1] > 0 || several[2] < 30 || several[3] < several[2]+30 {
		t.Error(several)
	}
}

// W2, W6: what a model allows, a weaker one does; and a program is robust just if
// nothing is more than plain.
func Test14_2WeakerAllowsMore(t *testing.T) {
	r := rand.New(rand.NewSource(143))
	more := [4]int{}
	for _, p := range manyPrograms(t, r, 3000, 4, 5) {
		if _, ok := axiom.All(p, api.MPSO, 200); !ok {
			continue
		}
		var last, plain []api.Final
		count := 0
		for _, m := range models {
			l, ok := Finals(p, m)
			n, told := Count(p, m)
			if !ok || !told || len(l) == 0 || n < len(l) || n < count || len(final.Minus(last, l)) > 0 {
				t.Fatalf("%v, model %d: %d ends of %d executions, %d of %d ahead", p, m, len(l), n, len(last), count)
			}
			if m == api.MSC {
				plain = l
			} else if len(l) > len(last) {
				more[m]++
			}
			if robust, ok := Robust(p, m); !ok || robust != (len(final.Minus(l, plain)) == 0) {
				t.Fatalf("%v, model %d: %v %v, %d ends, plain %d", p, m, robust, ok, len(l), len(plain))
			}
			last, count = l, n
		}
	}
	if more[2] < 100 || more[3] < 100 {
		t.Error(more)
	}
}

// A thread that is alone sees its own stores, in whatever order they come to
// memory: the chapter's example.
func Test14_2OneThreadAlone(t *testing.T) {
	r := rand.New(rand.NewSource(144))
	for range 1000 {
		p := ready(t, anyTest(r, 1, 10))
		want, _ := byLayers(t, p, api.MSC)
		if len(want) != 1 {
			t.Fatal(p, want)
		}
		for _, m := range models {
			holdEnds(t, p, m, want, 1, true)
		}
	}
}

// W2: nothing is read that nobody wrote.
func Test14_2NothingFromNowhere(t *testing.T) {
	for body, want := range map[string][]string{
		"thread { r0 = load x ; store y r0 ; } thread { r0 = load y ; store x r0 ; }":                                         {""},
		"init { x = 5 ; } thread { r0 = load x ; store y r0 ; } thread { r0 = load y ; store x r0 ; }":                        {"", "0:r0=5 y=5", "0:r0=5 1:r0=5 x=5 y=5"},
		"thread { r0 = load x ; skip 1 if r0 == 0 ; store y 42 ; } thread { r0 = load y ; skip 1 if r0 == 0 ; store x 42 ; }": {""},
		"thread { r0 = cas x 7 8 ; } thread { r0 = cas x 8 7 ; }":                                                             {""},
		"thread { r0 = load x ; r0 = r0 + 1 ; store y r0 ; } thread { r0 = load y ; store x r0 ; }":                           {"0:r0=1 y=1", "0:r0=1 1:r0=1 x=1 y=1"},
	} {
		for _, m := range models {
			p := compile(t, body)
			got, ok := Finals(p, m)
			if !ok || !slices.Equal(short(p, got), want) {
				t.Errorf("%q, model %d: %v %s, want %s", body, m, ok, short(p, got), want)
			}
		}
	}
}
