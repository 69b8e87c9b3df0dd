package axiom

import (
	"fmt"
	"math"
	"math/rand"
	"slices"
	"strings"
	"testing"

	"jacquard/api"
	"jacquard/exec"
	"jacquard/num"
)

// programs are what several tests go through.
var programs = []string{
	"thread { r0 = 1 ; } thread { }",
	"thread { r0 = load x ; }",
	"init { y = 4 ; } thread { fence ; store x 1 ; }",
	"thread { store x 1 ; r0 = load y ; } thread { store y 1 ; r0 = load x ; }",
	"thread { store x 1 ; store y 1 ; } thread { r0 = load y ; r1 = load x ; }",
	"thread { store x 1 ; store y 2 ; } thread { store y 1 ; store x 2 ; }",
	"thread { r0 = load x ; store y 1 ; } thread { r0 = load y ; store x 1 ; }",
	"thread { r0 = cas x 0 1 ; } thread { r0 = cas x 0 2 ; }",
	"thread { r0 = cas x 0 0 ; r1 = cas x 0 0 ; } thread { r0 = cas x 0 0 ; }",
	"thread { r0 = load x ; r0 = r0 + 1 ; store x r0 ; } thread { r0 = load x ; r0 = r0 + 1 ; store x r0 ; }",
	"thread { r0 = load x ; skip 1 if r0 == 0 ; store y 1 ; fence ; r1 = load y ; } thread { store x 1 ; r0 = load y ; }",
	"thread { store x 1 ; } thread { store x 1 ; } thread { store x 1 ; } thread { r0 = load x ; }",
	"init { x = 1 ; } thread { } thread { r0 = cas x 1 2 ; skip 1 if r0 == 1 ; store x 3 ; } thread { r0 = cas x 2 1 ; r1 = load x ; }",
}

func texts(list []api.Exec) []string {
	var l []string
	for _, x := range list {
		l = append(l, exec.Text(x))
	}
	return l
}

// holdAll holds All to be just want, with each most that tells it.
func holdAll(t *testing.T, p api.Prog, m int, want []string) {
	t.Helper()
	for _, most := range []int{len(want), len(want) + 1, 100_000, 100_001, math.MaxInt} {
		if got, ok := All(p, m, most); !ok || !slices.Equal(texts(got), want) {
			t.Fatalf("%v, model %d, most %d: %v\n%s\nwant\n%s", p, m, most, ok, strings.Join(texts(got), "\n"), strings.Join(want, "\n"))
		}
	}
	for _, most := range []int{len(want) - 1, len(want) / 2, 0, -1, -100_000, math.MinInt} {
		if got, ok := All(p, m, most); most < len(want) && (ok || got != nil) {
			t.Fatalf("%v, model %d, most %d: %v %d, want none of %d", p, m, most, ok, len(got), len(want))
		}
	}
}

// holdRising holds that each of all is Ok and Consistent, and stands behind the
// one ahead of it.
func holdRising(t *testing.T, p api.Prog, m int, all []api.Exec) {
	t.Helper()
	for at, x := range all {
		if at > 0 && !exec.Less(all[at-1], x) {
			t.Fatalf("%s is not ahead of %s", exec.Text(all[at-1]), exec.Text(x))
		}
		if !exec.Ok(p, x) || !Consistent(m, x) {
			t.Fatalf("not Ok, or not by model %d: %s", m, exec.Text(x))
		}
	}
}

// picked is those of all that are m's by the second reckoning.
func picked(all []api.Exec, m int) []string {
	var l []string
	for _, x := range all {
		if isConsistent(m, x) {
			l = append(l, exec.Text(x))
		}
	}
	return l
}

// The executions of small programs, as they stand.
func Test12_2All(t *testing.T) {
	for body, want := range map[string][]string{
		"thread { }":                                 {""},
		"thread { r0 = 1 ; } thread { }":             {""},
		"thread { skip 1 if 0 == 0 ; fence ; }":      {""},
		"thread { } thread { fence ; fence ; }":      {"1,0,3,0,0,0,-1 1,1,3,0,0,0,-1"},
		"init { x = 7 ; } thread { }":                {"-1,0,2,0,0,7,-1 c0"},
		"thread { } exists y = 1 & x = 2 ;":          {"-1,0,2,0,0,0,-1 -1,1,2,1,0,0,-1 c0 c1"},
		"init { x = -3 ; } thread { r0 = load x ; }": {"-1,0,2,0,0,-3,-1 0,0,1,0,-3,0,0 c0"},
		"thread { store x 5 ; }":                     {"-1,0,2,0,0,0,-1 0,0,2,0,0,5,-1 c0,1"},
		"thread { store x 1 ; r0 = load x ; }":       {"-1,0,2,0,0,0,-1 0,0,2,0,0,1,-1 0,1,1,0,1,0,1 c0,1"},
		"thread { store x 0 ; r0 = load x ; }":       {"-1,0,2,0,0,0,-1 0,0,2,0,0,0,-1 0,1,1,0,0,0,1 c0,1"},
		"thread { r0 = load x ; store x r0 ; }":      {"-1,0,2,0,0,0,-1 0,0,1,0,0,0,0 0,1,2,0,0,0,-1 c0,2"},
		"thread { store x 1 ; store x 2 ; }":         {"-1,0,2,0,0,0,-1 0,0,2,0,0,1,-1 0,1,2,0,0,2,-1 c0,1,2"},
		"thread { r0 = cas x 5 5 ; r1 = cas x 0 3 ; r2 = load x ; }": {
			"-1,0,2,0,0,0,-1 0,0,5,0,0,0,0 0,1,4,0,0,3,0 0,2,1,0,3,0,2 c0,2"},
		"thread { r0 = cas x 0 1 ; } thread { r0 = cas x 0 2 ; }": {
			"-1,0,2,0,0,0,-1 0,0,4,0,0,1,0 1,0,5,0,1,0,1 c0,1",
			"-1,0,2,0,0,0,-1 0,0,5,0,2,0,2 1,0,4,0,0,2,0 c0,2"},
		"thread { r0 = cas x 0 0 ; } thread { r0 = cas x 0 0 ; }": {
			"-1,0,2,0,0,0,-1 0,0,4,0,0,0,0 1,0,4,0,0,0,1 c0,1,2",
			"-1,0,2,0,0,0,-1 0,0,4,0,0,0,2 1,0,4,0,0,0,0 c0,2,1"},
		"thread { store x 1 ; } thread { store x 2 ; store x 3 ; }": {
			"-1,0,2,0,0,0,-1 0,0,2,0,0,1,-1 1,0,2,0,0,2,-1 1,1,2,0,0,3,-1 c0,1,2,3",
			"-1,0,2,0,0,0,-1 0,0,2,0,0,1,-1 1,0,2,0,0,2,-1 1,1,2,0,0,3,-1 c0,2,1,3",
			"-1,0,2,0,0,0,-1 0,0,2,0,0,1,-1 1,0,2,0,0,2,-1 1,1,2,0,0,3,-1 c0,2,3,1"},
		// A thread that goes on is less than one that ends: its next event is of
		// a lesser thread.
		"thread { r0 = load x ; skip 1 if r0 == 0 ; fence ; } thread { store x -1 ; }": {
			"-1,0,2,0,0,0,-1 0,0,1,0,-1,0,3 0,1,3,0,0,0,-1 1,0,2,0,0,-1,-1 c0,3",
			"-1,0,2,0,0,0,-1 0,0,1,0,0,0,0 1,0,2,0,0,-1,-1 c0,2"},
		// The same events, and another that is read from.
		"thread { r0 = load x ; } thread { store x 4 ; } thread { store x 4 ; }": {
			"-1,0,2,0,0,0,-1 0,0,1,0,0,0,0 1,0,2,0,0,4,-1 2,0,2,0,0,4,-1 c0,2,3",
			"-1,0,2,0,0,0,-1 0,0,1,0,0,0,0 1,0,2,0,0,4,-1 2,0,2,0,0,4,-1 c0,3,2",
			"-1,0,2,0,0,0,-1 0,0,1,0,4,0,2 1,0,2,0,0,4,-1 2,0,2,0,0,4,-1 c0,2,3",
			"-1,0,2,0,0,0,-1 0,0,1,0,4,0,2 1,0,2,0,0,4,-1 2,0,2,0,0,4,-1 c0,3,2",
			"-1,0,2,0,0,0,-1 0,0,1,0,4,0,3 1,0,2,0,0,4,-1 2,0,2,0,0,4,-1 c0,2,3",
			"-1,0,2,0,0,0,-1 0,0,1,0,4,0,3 1,0,2,0,0,4,-1 2,0,2,0,0,4,-1 c0,3,2"},
	} {
		for _, m := range models {
			holdAll(t, compile(t, body), m, want)
		}
	}
}

// The chapter's example, and one that tells the third model from the second.
func Test12_2AllOfTheExample(t *testing.T) {
	const evs = "-1,0,2,0,0,0,-1 -1,1,2,1,0,0,-1 "
	p := compile(t, "thread { store x 1 ; r0 = load y ; } thread { store y 1 ; r0 = load x ; }")
	weak := evs + "0,0,2,0,0,1,-1 0,1,1,1,0,0,1 1,0,2,1,0,1,-1 1,1,1,0,0,0,0 c0,2 c1,4"
	strong := []string{
		evs + "0,0,2,0,0,1,-1 0,1,1,1,0,0,1 1,0,2,1,0,1,-1 1,1,1,0,1,0,2 c0,2 c1,4",
		evs + "0,0,2,0,0,1,-1 0,1,1,1,1,0,4 1,0,2,1,0,1,-1 1,1,1,0,0,0,0 c0,2 c1,4",
		evs + "0,0,2,0,0,1,-1 0,1,1,1,1,0,4 1,0,2,1,0,1,-1 1,1,1,0,1,0,2 c0,2 c1,4"}
	holdAll(t, p, api.MSC, strong)
	holdAll(t, p, api.MTSO, append([]string{weak}, strong...))
	holdAll(t, p, api.MPSO, append([]string{weak}, strong...))

	p = compile(t, "thread { store x 1 ; store y 2 ; } thread { store y 1 ; store x 2 ; }")
	row := evs + "0,0,2,0,0,1,-1 0,1,2,1,0,2,-1 1,0,2,1,0,1,-1 1,1,2,0,0,2,-1 "
	strong = []string{row + "c0,2,5 c1,3,4", row + "c0,2,5 c1,4,3", row + "c0,5,2 c1,4,3"}
	holdAll(t, p, api.MSC, strong)
	holdAll(t, p, api.MTSO, strong)
	holdAll(t, p, api.MPSO, slices.Insert(strong, 2, row+"c0,5,2 c1,3,4"))
}

// How many there are, by a reckoning on paper; -1: more than All tells. Many of
// these have far more candidates than exec.All tells.
func Test12_2AllCounts(t *testing.T) {
	rep := strings.Repeat
	same := func(n int) [3]int { return [3]int{n, n, n} }
	for body, want := range map[string][3]int{
		"thread { store x 1 ; r0 = load y ; } thread { store y 1 ; r0 = load x ; }":                                                                      {3, 4, 4},
		"thread { store x 1 ; store y 1 ; } thread { r0 = load y ; r1 = load x ; }":                                                                      {3, 3, 4},
		"thread { r0 = load x ; store y 1 ; } thread { r0 = load y ; store x 1 ; }":                                                                      same(3),
		"thread { store x 1 ; } thread { store y 1 ; } thread { r0 = load x ; r1 = load y ; } thread { r0 = load y ; r1 = load x ; }":                    same(15),
		"thread { store x 1 ; r0 = load y ; } thread { store y 1 ; r0 = load z ; } thread { store z 1 ; r0 = load x ; }":                                 {7, 8, 8},
		"thread { r0 = load x ; r0 = r0 + 1 ; store x r0 ; } thread { r0 = load x ; r0 = r0 + 1 ; store x r0 ; }":                                        same(4),
		rep("thread { r0 = cas x 0 0 ; } ", 2):                                                                                                           same(2),
		rep("thread { r0 = cas x 0 0 ; } ", 4):                                                                                                           same(24),
		rep("thread { r0 = cas x 0 0 ; r0 = cas x 0 0 ; } ", 4):                                                                                          same(2520),
		rep("thread { r0 = cas x 0 1 ; } ", 4):                                                                                                           same(4),
		rep("thread { "+rep("r0 = cas x 0 1 ; ", 6)+"} ", 4):                                                                                             same(4),
		rep("thread { "+rep("r0 = cas x 7 1 ; ", 6)+"} ", 4):                                                                                             same(1),
		rep("thread { "+rep("r0 = load x ; ", 6)+"} ", 4):                                                                                                same(1),
		"thread { " + rep("store x 1 ; ", 10) + "}":                                                                                                      same(1),
		"thread { " + rep("store x 1 ; ", 5) + rep("r0 = load x ; ", 5) + "} thread { " + rep("store y 1 ; ", 5) + rep("r0 = load y ; ", 5) + "}":        same(1),
		"thread { " + rep("store w 1 ; ", 10) + "} thread { " + rep("store x 1 ; ", 10) + "} thread { store y 1 ; store z 1 ; store y 1 ; store z 1 ; }": same(1),
		"thread { " + rep("store x 1 ; ", 10) + "} thread { " + rep("r0 = load x ; ", 4) + "}":                                                           same(1001),
		"thread { " + rep("r0 = load x ; ", 4) + "} thread { " + rep("store x 1 ; ", 10) + "}":                                                           same(1001),
		"thread { " + rep("store x 1 ; ", 10) + "} thread { " + rep("r0 = load x ; ", 4) + "} thread { r0 = load x ; }":                                  same(11011),
		rep("thread { "+rep("store x 1 ; ", 7)+"} ", 2):                                                                                                  same(3432),
		rep("thread { "+rep("store x 1 ; ", 10)+"} ", 2):                                                                                                 same(-1),
		rep("thread { "+rep("store x 1 ; ", 4)+"} ", 3):                                                                                                  same(34650),
		rep("thread { "+rep("store x 1 ; ", 5)+"} ", 3):                                                                                                  same(-1),
		rep("thread { "+rep("store x 1 ; ", 6)+"} ", 4):                                                                                                  same(-1),
		"thread { " + rep("r0 = load x ; ", 10) + "} thread { " + rep("store x 1 ; ", 10) + "}":                                                          same(-1),
		// Only the third model lets each of two threads be ahead where it comes
		// late: else one is ahead up to a location, the other behind it.
		"thread { store x 1 ; store y 1 ; } thread { store y 2 ; store x 2 ; }":                                                 {3, 3, 4},
		"thread { store w 1 ; store x 1 ; store y 1 ; store z 1 ; } thread { store z 1 ; store y 1 ; store x 1 ; store w 1 ; }": {5, 5, 16},
		rep("thread { store w 1 ; store x 1 ; store y 1 ; store z 1 ; } ", 2):                                                   same(16),
		rep("thread { store w 1 ; store x 1 ; store y 1 ; store z 1 ; } ", 3):                                                   same(1296),
		rep("thread { store w 1 ; store x 1 ; store y 1 ; store z 1 ; store w 1 ; store x 1 ; } ", 4):                           same(-1),
		rep("thread { store w 1 ; fence ; } ", 4):                                                                               same(24),
	} {
		p := compile(t, body)
		for _, m := range models {
			all, ok := All(p, m, math.MaxInt)
			if n := want[m-1]; n == -1 && (ok || len(all) > 0) || n != -1 && (!ok || len(all) != n) {
				t.Errorf("%q, model %d: %d %v, want %d", body, m, len(all), ok, n)
			}
			holdRising(t, p, m, all[:min(len(all), 3000)])
		}
	}
}

// All programs of two threads of up to two of a few instructions.
func Test12_2AllOfShortThreads(t *testing.T) {
	few := []api.Ins{
		{Kind: api.IStore, Loc: 'x', A: register(0)},
		{Kind: api.IStore, Loc: 'y', A: number(1)},
		{Kind: api.ILoad, Reg: 0, Loc: 'x'},
		{Kind: api.ILoad, Reg: 0, Loc: 'y'},
		{Kind: api.ICas, Reg: 0, Loc: 'x', A: number(0), B: number(1)},
		{Kind: api.ICas, Reg: 0, Loc: 'x', A: number(1), B: register(0)},
		{Kind: api.ICas, Reg: 1, Loc: 'y', A: register(0), B: number(2)},
		{Kind: api.IFence},
	}
	lists := [][]api.Ins{nil}
	for _, a := range few {
		lists = append(lists, []api.Ins{a})
		for _, b := range few {
			lists = append(lists, []api.Ins{a, b})
		}
	}
	// A skip has something behind it, so it stands between.
	for _, a := range few[2:5] {
		for _, b := range few[:3] {
			lists = append(lists, []api.Ins{a, {Kind: api.ISkip, A: register(0), B: number(1), N: 1}, b})
		}
	}
	for _, a := range lists {
		for _, b := range lists {
			p := ready(t, api.Test{Name: "a", Threads: [][]api.Ins{a, b}})
			every, _ := exec.All(p, 10000)
			for _, m := range models {
				got, ok := All(p, m, 10000)
				if want := picked(every, m); !ok || !slices.Equal(texts(got), want) {
					t.Fatalf("%v, model %d: %v\n%s\nwant\n%s", p, m, ok, strings.Join(texts(got), "\n"), strings.Join(want, "\n"))
				}
			}
		}
	}
}

// All is just what Consistent takes of all that is Ok.
func Test12_2AllOfAny(t *testing.T) {
	r := rand.New(rand.NewSource(123))
	threads, great := map[int]int{}, 0
	for round := range 3000 {
		p := ready(t, anyTest(r, 4, 6))
		if round%3 == 0 {
			p = ready(t, weakTest(r))
		}
		every, ok := exec.All(p, 400)
		if !ok {
			great++
			continue
		}
		for _, m := range models {
			want := picked(every, m)
			if len(want) > 1 {
				threads[len(p.Threads)]++
			}
			got, ok := All(p, m, len(want))
			if !ok || !slices.Equal(texts(got), want) {
				t.Fatalf("%v, model %d: %v\n%s\nwant\n%s", p, m, ok, strings.Join(texts(got), "\n"), strings.Join(want, "\n"))
			}
			if got, ok := All(p, m, len(want)-1); ok || got != nil {
				t.Fatalf("%v, model %d: %d %v, want none of %d", p, m, len(got), ok, len(want))
			}
		}
	}
	for n := 2; n <= 4; n++ {
		if threads[n] < 300 {
			t.Error("too few of", n, "threads:", threads)
		}
	}
	if great > 1500 {
		t.Error(great, "great ones")
	}
}

// Programs with more candidates, too great for the second reckoning: what is
// Consistent is asked of Consistent.
func Test12_2AllOfGreater(t *testing.T) {
	r := rand.New(rand.NewSource(124))
	candidates := 0
	for range 500 {
		p := ready(t, anyTest(r, 4, 6))
		every, ok := exec.All(p, 6000)
		if !ok || len(every) < 400 {
			continue
		}
		candidates += len(every)
		for _, m := range models {
			got, ok := All(p, m, 100_000)
			n := 0
			for _, x := range every {
				if !Consistent(m, x) {
					continue
				}
				if n >= len(got) || !exec.Same(got[n], x) {
					t.Fatalf("%v, model %d: %d is not %s", p, m, n, exec.Text(x))
				}
				n++
			}
			if !ok || n != len(got) {
				t.Fatalf("%v, model %d: %v %d, want %d", p, m, ok, len(got), n)
			}
		}
	}
	if candidates < 50_000 {
		t.Error(candidates)
	}
}

// near has, by a model, as many executions as the limit, one fewer or one more. In
// each the first thread goes one of two ways, whose executions add up.
var near = []struct {
	m, count int
	body     string
}{
	{api.MSC, 99_999, `thread { r0 = load z ; skip 3 if r0 == 0 ; store x 1 ; r1 = load x ; skip 4 if r0 == 1 ; r1 = load y ; r1 = load x ; store y 1 ; r1 = load x ; }
		thread { store z 1 ; r1 = load x ; } thread { store y 1 ; store x 1 ; store y 1 ; store y 1 ; store x 1 ; store x 1 ; store x 1 ; }
		thread { store x 1 ; r1 = load y ; r1 = load x ; r1 = load x ; }`},
	{api.MSC, 100_000, `thread { r0 = load z ; skip 4 if r0 == 0 ; r1 = load y ; store x 1 ; r1 = load y ; skip 4 if r0 == 1 ; store y 1 ; store x 1 ; store y 1 ; store x 1 ; }
		thread { store z 1 ; r1 = load x ; r1 = load y ; } thread { store x 1 ; store x 1 ; store x 1 ; store x 1 ; store y 1 ; store x 1 ; store y 1 ; }
		thread { r1 = load y ; r1 = load y ; r1 = load y ; r1 = load y ; }`},
	{api.MTSO, 100_000, `thread { r0 = load z ; skip 3 if r0 == 0 ; r1 = load x ; store x 1 ; skip 4 if r0 == 1 ; r1 = load x ; store x 1 ; store y 1 ; r1 = load y ; }
		thread { store z 1 ; r1 = load x ; } thread { store x 1 ; store x 1 ; store x 1 ; store y 1 ; store y 1 ; store y 1 ; store y 1 ; }
		thread { r1 = load x ; r1 = load y ; store y 1 ; }`},
	{api.MTSO, 100_001, `thread { r0 = load z ; skip 3 if r0 == 0 ; store x 1 ; store x 1 ; skip 4 if r0 == 1 ; r1 = load x ; store x 1 ; store y 1 ; store y 1 ; }
		thread { store z 1 ; r1 = load x ; r1 = load y ; } thread { store y 1 ; store y 1 ; store y 1 ; store x 1 ; store y 1 ; store x 1 ; store x 1 ; store x 1 ; }
		thread { r1 = load y ; r1 = load x ; store y 1 ; }`},
	{api.MPSO, 100_000, `thread { r0 = load z ; skip 4 if r0 == 0 ; r1 = load x ; r1 = load x ; r1 = load x ; skip 4 if r0 == 1 ; store x 1 ; r1 = load y ; store y 1 ; store y 1 ; }
		thread { store z 1 ; store y 1 ; } thread { r1 = load x ; store y 1 ; r1 = load y ; store x 1 ; store x 1 ; }
		thread { store x 1 ; store y 1 ; store y 1 ; store y 1 ; }`},
}

func Test12_2AllAtTheLimit(t *testing.T) {
	for _, x := range near {
		p := compile(t, x.body)
		for _, most := range []int{math.MinInt, 0, x.count - 1, x.count, 100_001} {
			all, ok := All(p, x.m, most)
			if want := x.count <= min(most, 100_000); ok != want || want && len(all) != x.count || !want && all != nil {
				t.Errorf("%d executions, most %d: %d %v", x.count, most, len(all), ok)
			}
		}
		all, _ := All(p, x.m, math.MaxInt)
		for at := 1; at < len(all); at++ {
			if !exec.Less(all[at-1], all[at]) {
				t.Fatalf("%s is not ahead of %s", exec.Text(all[at-1]), exec.Text(all[at]))
			}
		}
		for at := 0; at < len(all); at += 41 {
			if !exec.Ok(p, all[at]) || !Consistent(x.m, all[at]) {
				t.Fatalf("not Ok, or not by model %d: %s", x.m, exec.Text(all[at]))
			}
		}
	}
}

// Each number of most from below 0 to above the number of executions.
func Test12_2AllMost(t *testing.T) {
	for _, body := range programs {
		p := compile(t, body)
		every, _ := exec.All(p, 1000)
		for _, m := range models {
			want := picked(every, m)
			for most := -3; most < len(want)+4; most++ {
				got, ok := All(p, m, most)
				if ok != (most >= len(want)) || ok && len(got) != len(want) || !ok && got != nil {
					t.Errorf("%q, model %d, most %d of %d: %d %v", body, m, most, len(want), len(got), ok)
				}
			}
			holdAll(t, p, m, want)
		}
	}
}

// No model lets nothing be: that is never more than most.
func Test12_2AllOfNoModel(t *testing.T) {
	rep := strings.Repeat
	for _, body := range append(slices.Clone(programs), rep("thread { "+rep("store x 1 ; ", 6)+"} ", 4)) {
		p := compile(t, body)
		for _, m := range strangers {
			for _, most := range []int{math.MinInt, -1, 0, 1, 100_000, math.MaxInt} {
				if got, ok := All(p, m, most); !ok || len(got) > 0 {
					t.Errorf("%q, model %d, most %d: %d %v", body, m, most, len(got), ok)
				}
			}
		}
	}
}

// As many threads, instructions and locations as a test may have, and each
// place of each thread at which something is read from another one.
func Test12_2AllOfTheGreatest(t *testing.T) {
	rep := strings.Repeat
	for body, want := range map[string]int{
		"thread { " + rep("fence ; ", 10) + "} thread { " + rep("fence ; ", 10) + "} thread { fence ; } thread { fence ; fence ; fence ; }":                       1,
		rep("thread { r0 = load w ; r1 = load x ; r2 = load y ; r3 = load z ; fence ; fence ; } ", 4):                                                             1,
		"thread { " + rep("fence ; ", 9) + "r0 = load x ; } thread { fence ; fence ; r0 = load x ; } thread { } thread { " + rep("fence ; ", 9) + "store x 1 ; }": 4,
		"thread { " + rep("fence ; ", 9) + "store x 1 ; } thread { } thread { fence ; fence ; r0 = load x ; } thread { " + rep("fence ; ", 9) + "r0 = load x ; }": 4,
		"thread { " + rep("fence ; ", 9) + "r0 = cas x 0 1 ; } thread { } thread { } thread { " + rep("fence ; ", 9) + "r0 = cas x 0 2 ; }":                       2,
		"thread { store w 1 ; store x 1 ; store y 1 ; store z 1 ; " + rep("r0 = load z ; ", 6) + "} thread { " + rep("fence ; ", 9) + "r0 = load w ; }":           2,
	} {
		p := compile(t, body)
		for _, m := range models {
			all, ok := All(p, m, 100)
			if !ok || len(all) != want {
				t.Errorf("%q, model %d: %d %v", body, m, len(all), ok)
			}
			holdRising(t, p, m, all)
		}
	}
	for k := range 4 {
		for i := range 10 {
			for u := range 4 {
				lists := []string{"fence ; ", "fence ; ", "fence ; ", "fence ; "}
				lists[k] = rep("fence ; ", i) + "r0 = load x ; "
				if u == k {
					continue
				}
				lists[u] = rep("fence ; ", i) + "store x 9 ; "
				p := compile(t, "thread { "+strings.Join(lists, "} thread { ")+"}")
				every, _ := exec.All(p, 10)
				for _, m := range models {
					if got, ok := All(p, m, 2); !ok || len(got) != 2 || !slices.Equal(texts(got), texts(every)) {
						t.Fatalf("event %d of %d from %d, model %d: %v %v", i, k, u, m, ok, texts(got))
					}
				}
			}
		}
	}
}

// told is a second reckoning of a thread: one instruction after the other, none
// of which is looked at twice. next is the location that it would read when
// there are no more values, -1 at its end.
func told(list []api.Ins, k int, values []int64) (evs []api.Ev, next int) {
	var regs [4]int64
	of := func(o api.Operand) int64 {
		if o.Reg == -1 {
			return o.Value
		}
		return regs[o.Reg]
	}
	out := 0
	for _, i := range list {
		if out > 0 {
			out--
			continue
		}
		var e api.Ev
		switch i.Kind {
		case api.ISet:
			n, ok := num.Do(i.Op, of(i.A), of(i.B))
			if !ok {
				n = of(i.A)
			}
			regs[i.Reg] = n
			continue
		case api.ISkip:
			if of(i.A) == of(i.B) {
				out = i.N
			}
			continue
		case api.IStore:
			e = writes(i.Loc, of(i.A))
		case api.IFence:
			e = fences()
		default:
			if len(values) == 0 {
				return evs, i.Loc
			}
			e = reads(i.Loc, values[0])
			if i.Kind == api.ICas {
				e = lost(i.Loc, values[0])
				if values[0] == of(i.A) {
					e = won(i.Loc, values[0], of(i.B))
				}
			}
			regs[i.Reg] = values[0]
			values = values[1:]
		}
		e.T, e.I = k, len(evs)
		evs = append(evs, e)
	}
	return evs, -1
}

// place is a write: event i of thread t, or the beginning of location i.
type place struct{ t, i int }

// machine is the other road, that of W3: stores wait for each thread, in one
// row (MTSO) or in one for each location (MPSO), and come to memory one by one.
type machine struct {
	p     api.Prog
	m     int
	seen  map[string]int
	found map[string]int
}

// state is how far a machine has come, and on what way: what each thread has
// done, read and from whom, what waits, and what came to memory.
type state struct {
	done   [4]int
	values [4][]int64
	from   [4][]place
	waits  [4][]api.Ev
	memory [4][]api.Ev
}

func (s state) copy() state {
	for k := range 4 {
		s.values[k], s.from[k] = slices.Clone(s.values[k]), slices.Clone(s.from[k])
		s.waits[k], s.memory[k] = slices.Clone(s.waits[k]), slices.Clone(s.memory[k])
	}
	return s
}

func (v *machine) run(s state) {
	key := fmt.Sprint(s)
	if v.seen[key]++; v.seen[key] > 1 {
		return
	}
	ended := true
	for k := range v.p.Threads {
		evs, next := told(v.p.Threads[k], k, s.values[k])
		switch {
		case s.done[k] < len(evs):
			ended = false
			v.do(s.copy(), k, evs[s.done[k]])
		case next >= 0:
			ended = false
			v.read(s.copy(), k, next)
		}
		if len(s.waits[k]) > 0 {
			ended = false
			v.flush(s, k)
		}
	}
	if ended {
		v.found[exec.Text(v.exec(s))]++
	}
}

// do does what does not read.
func (v *machine) do(s state, k int, e api.Ev) {
	s.done[k]++
	switch {
	case e.Kind == api.EFence && len(s.waits[k]) > 0:
		return
	case e.Kind == api.EWrite && v.m == api.MSC:
		s.memory[e.Loc] = append(s.memory[e.Loc], e)
	case e.Kind == api.EWrite:
		s.waits[k] = append(s.waits[k], e)
	}
	v.run(s)
}

func (v *machine) read(s state, k, loc int) {
	from := s.memory[loc][len(s.memory[loc])-1]
	evs, _ := told(v.p.Threads[k], k, append(slices.Clone(s.values[k]), 0))
	if evs[s.done[k]].Kind == api.ERead {
		for _, e := range s.waits[k] {
			if e.Loc == loc {
				from = e
			}
		}
	} else if len(s.waits[k]) > 0 {
		return
	}
	s.values[k], s.from[k] = append(s.values[k], from.W), append(s.from[k], place{from.T, from.I})
	evs, _ = told(v.p.Threads[k], k, s.values[k])
	if e := evs[s.done[k]]; e.Kind == api.EWon {
		s.memory[loc] = append(s.memory[loc], e)
	}
	s.done[k]++
	v.run(s)
}

// flush lets the first that waits come to memory: of all, or of each location.
func (v *machine) flush(s state, k int) {
	for at, e := range s.waits[k] {
		first := slices.IndexFunc(s.waits[k], func(f api.Ev) bool { return f.Loc == e.Loc })
		if v.m == api.MTSO {
			first = 0
		}
		if first == at {
			then := s.copy()
			then.waits[k] = slices.Delete(then.waits[k], at, at+1)
			then.memory[e.Loc] = append(then.memory[e.Loc], e)
			v.run(then)
		}
	}
}

// exec is what a run came to.
func (v *machine) exec(s state) api.Exec {
	x := api.Exec{Evs: begins(v.p.Init...)}
	for k := range v.p.Threads {
		evs, _ := told(v.p.Threads[k], k, s.values[k])
		x.Evs = append(x.Evs, evs...)
	}
	find := func(t, i int) int {
		return slices.IndexFunc(x.Evs, func(e api.Ev) bool { return e.T == t && e.I == i })
	}
	for _, e := range x.Evs {
		from := -1
		if e.Kind == 1 || e.Kind >= 4 {
			from = find(s.from[e.T][0].t, s.from[e.T][0].i)
			s.from[e.T] = s.from[e.T][1:]
		}
		x.RF = append(x.RF, from)
	}
	for loc := range v.p.Locs {
		var row []int
		for _, e := range s.memory[loc] {
			row = append(row, find(e.T, e.I))
		}
		x.CO = append(x.CO, row)
	}
	return x
}

// byMachine is all that a machine comes to, sorted.
func byMachine(p api.Prog, m int) []string {
	v := &machine{p: p, m: m, seen: map[string]int{}, found: map[string]int{}}
	var s state
	for loc, e := range begins(p.Init...) {
		s.memory[loc] = []api.Ev{e}
	}
	v.run(s)
	var l []string
	for text := range v.found {
		l = append(l, text)
	}
	slices.Sort(l)
	return l
}

// W3: what may be by relations is what machines come to.
func Test12_3TwoRoads(t *testing.T) {
	r := rand.New(rand.NewSource(125))
	count := map[int]int{}
	for round := range 1500 {
		test := anyTest(r, 3, 3)
		if round%2 == 0 {
			test = weakTest(r)
			for at := range test.Threads {
				test.Threads[at] = test.Threads[at][:min(len(test.Threads[at]), 7/len(test.Threads))]
			}
		}
		p := ready(t, test)
		for _, m := range models {
			all, ok := All(p, m, 100_000)
			got, want := texts(all), byMachine(p, m)
			slices.Sort(got)
			if !ok || !slices.Equal(got, want) {
				t.Fatalf("%v, model %d: %v\n%s\nwant\n%s", p, m, ok, strings.Join(got, "\n"), strings.Join(want, "\n"))
			}
			count[m] += len(got)
		}
	}
	if count[1] < 2000 || count[2] < count[1]+100 || count[3] < count[2]+50 {
		t.Error(count)
	}
}

func Test12_3TwoRoadsOfKnownTests(t *testing.T) {
	for _, body := range append(slices.Clone(programs),
		"thread { store x 1 ; r0 = load x ; r1 = load y ; } thread { store y 1 ; store x 2 ; }",
		"thread { store x 1 ; r1 = cas z 0 0 ; r0 = load y ; } thread { store y 1 ; r1 = cas z 0 0 ; r0 = load x ; }",
		"thread { store x 1 ; } thread { store y 1 ; } thread { r0 = load x ; r1 = load y ; } thread { r0 = load y ; r1 = load x ; }",
		"thread { store x 1 ; r0 = load y ; store x 2 ; } thread { store y 1 ; r0 = load x ; store y 2 ; }",
	) {
		p := compile(t, body)
		for _, m := range models {
			all, _ := All(p, m, 100_000)
			got := texts(all)
			slices.Sort(got)
			if want := byMachine(p, m); !slices.Equal(got, want) {
				t.Errorf("%s, model %d:\n%s\nwant\n%s", body, m, strings.Join(got, "\n"), strings.Join(want, "\n"))
			}
		}
	}
}

// W2: nothing is read that nobody wrote. And something may always be: not one
// program is without executions, and a weaker model lets no fewer be.
func Test12_3NothingFromNowhere(t *testing.T) {
	r := rand.New(rand.NewSource(126))
	readings := 0
	for range 1500 {
		p := ready(t, anyTest(r, 4, 6))
		var last []string
		for _, m := range models {
			all, ok := All(p, m, 2000)
			if ok && len(all) == 0 {
				t.Fatalf("%v, model %d: none", p, m)
			}
			for _, x := range all {
				for at, e := range x.Evs {
					if e.Kind != api.ERead && e.Kind < api.EWon {
						continue
					}
					readings++
					if from := x.Evs[x.RF[at]]; x.RF[at] == at || from.Kind != api.EWrite && from.Kind != api.EWon || from.Loc != e.Loc || from.W != e.R {
						t.Fatalf("%v: event %d of %s", p, at, exec.Text(x))
					}
				}
			}
			holdRising(t, p, m, all[:min(len(all), 50)])
			if list := texts(all); ok {
				for _, text := range last {
					if !slices.Contains(list, text) {
						t.Fatalf("%v: model %d does not let %s be", p, m, text)
					}
				}
				last = list
			}
		}
	}
	if readings < 50_000 {
		t.Error(readings)
	}
}

// What could only be if it were already.
func Test12_3OutOfThinAir(t *testing.T) {
	for body, values := range map[string][]int64{
		"thread { r0 = load x ; store y r0 ; } thread { r0 = load y ; store x r0 ; }":                                         {0},
		"init { x = 5 ; } thread { r0 = load x ; store y r0 ; } thread { r0 = load y ; store x r0 ; }":                        {0, 5},
		"thread { r0 = load x ; r0 = r0 + 1 ; store y r0 ; } thread { r0 = load y ; store x r0 ; }":                           {0, 1},
		"thread { r0 = load x ; skip 1 if r0 == 0 ; store y 42 ; } thread { r0 = load y ; skip 1 if r0 == 0 ; store x 42 ; }": {0},
		"thread { r0 = cas x 7 8 ; } thread { r0 = cas x 8 7 ; }":                                                             {0},
	} {
		for _, m := range models {
			all, ok := All(compile(t, body), m, 1000)
			var got []int64
			for _, x := range all {
				for _, e := range x.Evs {
					if e.Kind == api.ERead || e.Kind >= api.EWon {
						got = append(got, e.R)
					}
				}
			}
			slices.Sort(got)
			if got = slices.Compact(got); !ok || !slices.Equal(got, values) {
				t.Errorf("%q, model %d: reads %v, want %v", body, m, got, values)
			}
		}
	}
}
