package exec

import (
	"fmt"
	"math"
	"math/rand"
	"slices"
	"strings"
	"testing"

	"jacquard/api"
	"jacquard/event"
)

// holdAll holds All to be just want, with each most that tells it.
func holdAll(t *testing.T, p api.Prog, want []api.Exec) {
	t.Helper()
	for _, most := range []int{len(want), len(want) + 1, 100_000, 100_001, math.MaxInt} {
		got, ok := All(p, most)
		if !ok || !slices.EqualFunc(got, want, func(a, b api.Exec) bool { return before(a, b) == 0 }) {
			t.Fatalf("%v, most %d: %v\n%s\nwant\n%s", p, most, ok, lines(got), lines(want))
		}
	}
	for _, most := range []int{len(want) - 1, len(want) / 2, 0, -1, math.MinInt} {
		if got, ok := All(p, most); most < len(want) && (ok || len(got) > 0) {
			t.Fatalf("%v, most %d: %v %d, want none of %d", p, most, ok, len(got), len(want))
		}
	}
}

func lines(list []api.Exec) string {
	var texts []string
	for _, x := range list {
		texts = append(texts, textOf(x))
	}
	return strings.Join(texts, "\n")
}

// source is whose W is read.
type source struct{ t, i int }

// forward is a second reckoning of All: threads go on, in any order, each until
// it would read; one of those that wait reads one of the writes that are done.
type forward struct {
	p     api.Prog
	cap   int
	seen  map[string]int
	found []api.Exec
}

// state is what each thread has read so far, and from whom.
type state struct {
	values  [4][]int64
	sources [4][]source
}

func (f *forward) from(s state) {
	key := fmt.Sprint(s)
	if f.seen[key]++; f.seen[key] > 1 || len(f.found) > f.cap {
		return
	}
	done := begins(f.p.Init...)
	next := [4]int{-1, -1, -1, -1}
	for k, list := range f.p.Threads {
		var evs []api.Ev
		evs, next[k] = told(list, k, s.values[k])
		done = append(done, evs...)
	}
	if next == [4]int{-1, -1, -1, -1} {
		f.end(s, done)
		return
	}
	for k, loc := range next {
		for _, e := range done {
			if loc >= 0 && isWrite(e) && e.Loc == loc {
				then := s
				then.values[k] = append(slices.Clone(s.values[k]), e.W)
				then.sources[k] = append(slices.Clone(s.sources[k]), source{e.T, e.I})
				f.from(then)
			}
		}
	}
}

// end keeps what all threads have done, with all orders of the writes.
func (f *forward) end(s state, evs []api.Ev) {
	x := api.Exec{Evs: evs}
	for _, e := range evs {
		place := -1
		if isRead(e) {
			from := s.sources[e.T][0]
			s.sources[e.T] = s.sources[e.T][1:]
			place = slices.IndexFunc(evs, func(w api.Ev) bool { return w.T == from.t && w.I == from.i })
		}
		x.RF = append(x.RF, place)
	}
	f.ordered(x)
}

// ordered keeps x with all orders of the locations that it has none of yet.
func (f *forward) ordered(x api.Exec) {
	loc := len(x.CO)
	if loc == len(f.p.Locs) {
		f.found = append(f.found, copyOf(x))
		return
	}
	var behind []int
	for at, e := range x.Evs {
		if isWrite(e) && e.Loc == loc && e.T != -1 {
			behind = append(behind, at)
		}
	}
	x.CO = append(slices.Clone(x.CO), nil)
	shuffled([]int{loc}, behind, func(row []int) bool {
		x.CO[loc] = row
		f.ordered(x)
		return len(f.found) <= f.cap
	})
}

// shuffled calls see with row and behind it each order of rest, for as long as
// that asks for more.
func shuffled(row, rest []int, see func(row []int) bool) bool {
	if len(rest) == 0 {
		return see(row)
	}
	for at, place := range rest {
		if !shuffled(append(slices.Clone(row), place), slices.Delete(slices.Clone(rest), at, at+1), see) {
			return false
		}
	}
	return true
}

// forwards is all candidates by the second reckoning; false if they are more
// than most.
func forwards(p api.Prog, most int) ([]api.Exec, bool) {
	f := &forward{p: p, cap: most, seen: map[string]int{}}
	f.from(state{})
	slices.SortFunc(f.found, before)
	return f.found, len(f.found) <= most
}

// The candidates of small programs, as they stand.
func Test11_2All(t *testing.T) {
	for body, want := range map[string][]string{
		"thread { }":                                 {""},
		"thread { } thread { }":                      {""},
		"thread { r0 = 1 ; } thread { }":             {""},
		"thread { skip 1 if 0 == 0 ; fence ; }":      {""},
		"thread { fence ; }":                         {"0,0,3,0,0,0,-1"},
		"thread { } thread { fence ; fence ; }":      {"1,0,3,0,0,0,-1 1,1,3,0,0,0,-1"},
		"init { x = 7 ; } thread { }":                {"-1,0,2,0,0,7,-1 c0"},
		"thread { } exists y = 1 & x = 2 ;":          {"-1,0,2,0,0,0,-1 -1,1,2,1,0,0,-1 c0 c1"},
		"thread { r0 = load x ; }":                   {"-1,0,2,0,0,0,-1 0,0,1,0,0,0,0 c0"},
		"init { x = -3 ; } thread { r0 = load x ; }": {"-1,0,2,0,0,-3,-1 0,0,1,0,-3,0,0 c0"},
		"thread { store x 5 ; }":                     {"-1,0,2,0,0,0,-1 0,0,2,0,0,5,-1 c0,1"},
		"thread { store x 1 ; r0 = load x ; }": {
			"-1,0,2,0,0,0,-1 0,0,2,0,0,1,-1 0,1,1,0,0,0,0 c0,1",
			"-1,0,2,0,0,0,-1 0,0,2,0,0,1,-1 0,1,1,0,1,0,1 c0,1"},
		"thread { store x 0 ; r0 = load x ; }": {
			"-1,0,2,0,0,0,-1 0,0,2,0,0,0,-1 0,1,1,0,0,0,0 c0,1",
			"-1,0,2,0,0,0,-1 0,0,2,0,0,0,-1 0,1,1,0,0,0,1 c0,1"},
		"thread { r0 = load x ; store x 1 ; }":                     {"-1,0,2,0,0,0,-1 0,0,1,0,0,0,0 0,1,2,0,0,1,-1 c0,2"},
		"thread { r0 = load x ; store x r0 ; }":                    {"-1,0,2,0,0,0,-1 0,0,1,0,0,0,0 0,1,2,0,0,0,-1 c0,2"},
		"thread { r0 = load x ; skip 1 if r0 == 0 ; store x 1 ; }": {"-1,0,2,0,0,0,-1 0,0,1,0,0,0,0 c0"},
		"thread { r0 = cas x 0 0 ; }":                              {"-1,0,2,0,0,0,-1 0,0,4,0,0,0,0 c0,1"},
		"thread { r0 = cas x 5 5 ; }":                              {"-1,0,2,0,0,0,-1 0,0,5,0,0,0,0 c0"},
		"thread { r0 = cas x 1 5 ; }":                              {"-1,0,2,0,0,0,-1 0,0,5,0,0,0,0 c0"},
		"thread { r0 = cas x 0 1 ; } thread { r0 = cas x 0 2 ; }": {
			"-1,0,2,0,0,0,-1 0,0,4,0,0,1,0 1,0,4,0,0,2,0 c0,1,2",
			"-1,0,2,0,0,0,-1 0,0,4,0,0,1,0 1,0,4,0,0,2,0 c0,2,1",
			"-1,0,2,0,0,0,-1 0,0,4,0,0,1,0 1,0,5,0,1,0,1 c0,1",
			"-1,0,2,0,0,0,-1 0,0,5,0,2,0,2 1,0,4,0,0,2,0 c0,2"},
		"thread { store x 1 ; } thread { store x 2 ; store x 3 ; }": {
			"-1,0,2,0,0,0,-1 0,0,2,0,0,1,-1 1,0,2,0,0,2,-1 1,1,2,0,0,3,-1 c0,1,2,3",
			"-1,0,2,0,0,0,-1 0,0,2,0,0,1,-1 1,0,2,0,0,2,-1 1,1,2,0,0,3,-1 c0,1,3,2",
			"-1,0,2,0,0,0,-1 0,0,2,0,0,1,-1 1,0,2,0,0,2,-1 1,1,2,0,0,3,-1 c0,2,1,3",
			"-1,0,2,0,0,0,-1 0,0,2,0,0,1,-1 1,0,2,0,0,2,-1 1,1,2,0,0,3,-1 c0,2,3,1",
			"-1,0,2,0,0,0,-1 0,0,2,0,0,1,-1 1,0,2,0,0,2,-1 1,1,2,0,0,3,-1 c0,3,1,2",
			"-1,0,2,0,0,0,-1 0,0,2,0,0,1,-1 1,0,2,0,0,2,-1 1,1,2,0,0,3,-1 c0,3,2,1"},
		"thread { store x 1 ; store y 2 ; } thread { store y 1 ; store x 2 ; }": {
			"-1,0,2,0,0,0,-1 -1,1,2,1,0,0,-1 0,0,2,0,0,1,-1 0,1,2,1,0,2,-1 1,0,2,1,0,1,-1 1,1,2,0,0,2,-1 c0,2,5 c1,3,4",
			"-1,0,2,0,0,0,-1 -1,1,2,1,0,0,-1 0,0,2,0,0,1,-1 0,1,2,1,0,2,-1 1,0,2,1,0,1,-1 1,1,2,0,0,2,-1 c0,2,5 c1,4,3",
			"-1,0,2,0,0,0,-1 -1,1,2,1,0,0,-1 0,0,2,0,0,1,-1 0,1,2,1,0,2,-1 1,0,2,1,0,1,-1 1,1,2,0,0,2,-1 c0,5,2 c1,3,4",
			"-1,0,2,0,0,0,-1 -1,1,2,1,0,0,-1 0,0,2,0,0,1,-1 0,1,2,1,0,2,-1 1,0,2,1,0,1,-1 1,1,2,0,0,2,-1 c0,5,2 c1,4,3"},
		// A thread that goes on is less than one that ends: its next event is of
		// a lesser thread.
		"thread { r0 = load x ; skip 1 if r0 == 0 ; fence ; } thread { store x -1 ; }": {
			"-1,0,2,0,0,0,-1 0,0,1,0,-1,0,3 0,1,3,0,0,0,-1 1,0,2,0,0,-1,-1 c0,3",
			"-1,0,2,0,0,0,-1 0,0,1,0,0,0,0 1,0,2,0,0,-1,-1 c0,2"},
		// The same events, and another that is read from.
		"thread { r0 = load x ; } thread { store x 4 ; } thread { store x 4 ; }": {
			"-1,0,2,0,0,0,-1 0,0,1,0,0,0,0 1,0,2,0,0,4,-1 2,0,2,0,0,4,-1 c0,2,3",
			"-1,0,2,0,0,0,-1 0,0,1,0,0,0,0 1,0,2,0,0,4,-1 2,0,2,0,0,4,-1 c0,3,2",
			"-1,0,2,0,0,0,-1 0,0,1,0,4,0,2 1,0,2,0,0,4,-1 2,0,2,0,0,4,-1 c0,2,3",
			"-1,0,2,0,0,0,-1 0,0,1,0,4,0,2 1,0,2,0,0,4,-1 2,0,2,0,0,4,-1 c0,3,2",
			"-1,0,2,0,0,0,-1 0,0,1,0,4,0,3 1,0,2,0,0,4,-1 2,0,2,0,0,4,-1 c0,2,3",
			"-1,0,2,0,0,0,-1 0,0,1,0,4,0,3 1,0,2,0,0,4,-1 2,0,2,0,0,4,-1 c0,3,2"},
	} {
		p := compile(t, body)
		all, ok := All(p, 1000)
		var got []string
		for _, x := range all {
			got = append(got, Text(x))
		}
		if !ok || !slices.Equal(got, want) {
			t.Errorf("%q: %v\n%s\nwant\n%s", body, ok, strings.Join(got, "\n"), strings.Join(want, "\n"))
			continue
		}
		holdAll(t, p, all)
	}
}

// How many there are, by a reckoning on paper.
func Test11_2AllCounts(t *testing.T) {
	rep := strings.Repeat
	for body, want := range map[string]int{
		"thread { store x 1 ; r0 = load y ; } thread { store y 1 ; r0 = load x ; }":                               4,
		"thread { store x 1 ; store y 1 ; } thread { r0 = load y ; r1 = load x ; }":                               4,
		"thread { r0 = load x ; r0 = r0 + 1 ; store x r0 ; } thread { r0 = load x ; r0 = r0 + 1 ; store x r0 ; }": 6,
		"thread { r0 = load x ; store y r0 ; } thread { r0 = load y ; store x r0 ; }":                             3,
		"thread { r0 = load x ; store y 1 ; } thread { r0 = load y ; store x 1 ; }":                               3,
		// Trees of which the Init is the root, times orders of the writes.
		rep("thread { r0 = cas x 0 0 ; } ", 2):                 3 * 2,
		rep("thread { r0 = cas x 0 0 ; } ", 3):                 16 * 6,
		rep("thread { r0 = cas x 0 0 ; } ", 4):                 125 * 24,
		rep("thread { r0 = load x ; store x r0 ; } ", 4):       125 * 24,
		"thread { " + rep("store x 1 ; ", 5) + "}":             120,
		"thread { " + rep("store x 1 ; ", 8) + "}":             40320,
		"thread { " + rep("store x 1 ; store y 1 ; ", 4) + "}": 24 * 24,
		"thread { store x 1 ; store y 1 ; store y 2 ; store z 1 ; store z 2 ; store z 3 ; } thread { store w 1 ; store w 2 ; store w 3 ; }": 2 * 6 * 6,
		"thread { " + rep("r0 = load x ; ", 10) + "} thread { store x 1 ; }":                                                                1024,
		"thread { " + rep("r0 = load x ; ", 10) + "} thread { " + rep("r0 = load x ; ", 6) + "} thread { store x 1 ; }":                     65536,
		rep("thread { "+rep("r0 = load x ; ", 6)+"} ", 4):                                                                                   1,
		"thread { " + rep("r0 = cas x 7 1 ; ", 10) + "} thread { " + rep("r0 = cas x 7 1 ; ", 10) + "} thread { store x 6 ; }":              1 << 20,
		"thread { " + rep("store x 1 ; ", 9) + "}":                                                                                          362880,
	} {
		p := compile(t, body)
		all, ok := All(p, 100_000)
		if want > 100_000 {
			if ok || len(all) > 0 {
				t.Errorf("%q: %d %v, want none", body, len(all), ok)
			}
			continue
		}
		if !ok || len(all) != want {
			t.Errorf("%q: %d %v, want %d", body, len(all), ok, want)
		}
		holdRising(t, p, all)
	}
}

// holdRising holds that each of all is Ok, and stands behind the one ahead of it.
func holdRising(t *testing.T, p api.Prog, all []api.Exec) {
	t.Helper()
	for at, x := range all {
		if at > 0 && !Less(all[at-1], x) {
			t.Fatalf("%s is not ahead of %s", Text(all[at-1]), Text(x))
		}
		if !Ok(p, x) {
			t.Fatalf("not Ok: %s", Text(x))
		}
	}
}

// near has as many candidates as the limit, one fewer and one more.
var near = map[int]string{
	99_999: `thread { r0 = load z ; skip 4 if r0 == 0 ; r0 = load x ; r0 = load x ; r0 = load z ; r0 = load x ; r0 = load x ; }
		thread { r0 = load x ; skip 3 if r0 == 1 ; r0 = load x ; r0 = load x ; r0 = load z ; skip 4 if r0 == 0 ; r0 = load x ; skip 1 if r0 == 2 ; r0 = load z ; r0 = load x ; }`,
	100_000: `thread { r0 = load x ; r0 = load x ; r0 = load x ; r0 = load x ; skip 3 if r0 == 1 ; r0 = load x ; r0 = load x ; r0 = load z ; }
		thread { r0 = load z ; r0 = load z ; skip 6 if r0 == 0 ; r0 = load z ; r0 = load z ; r0 = load z ; r0 = load z ; skip 1 if r0 == 1 ; r0 = load z ; }`,
	100_001: `thread { r0 = load x ; skip 4 if r0 == 0 ; skip 1 if r0 == 1 ; r0 = load x ; r0 = load z ; r0 = load x ; }
		thread { r0 = load x ; skip 7 if r0 == 2 ; r0 = load x ; r0 = load x ; r0 = load x ; r0 = load x ; skip 3 if r0 == 0 ; r0 = load x ; r0 = load x ; r0 = load z ; }`,
}

func Test11_2AllAtTheLimit(t *testing.T) {
	for count, body := range near {
		p := compile(t, body+" thread { r0 = load z ; skip 2 if r0 == 0 ; store x 1 ; store x 2 ; } thread { store z 1 ; }")
		for _, most := range []int{math.MinInt, -100_000, 0, 1, 99_999, 100_000, 100_001, math.MaxInt} {
			all, ok := All(p, most)
			if want := count <= min(most, 100_000); ok != want || want && len(all) != count || !want && len(all) > 0 {
				t.Errorf("%d candidates, most %d: %d %v", count, most, len(all), ok)
			}
		}
		all, _ := All(p, math.MaxInt)
		holdRising(t, p, all)
	}
}

// Each number of most from below 0 to above the number of candidates.
func Test11_2AllMost(t *testing.T) {
	for _, body := range programs {
		p := compile(t, body)
		want, ok := forwards(p, 1000)
		if !ok {
			t.Fatal(body)
		}
		for most := -3; most < len(want)+4; most++ {
			got, ok := All(p, most)
			if ok != (most >= len(want)) || ok && len(got) != len(want) || !ok && len(got) > 0 {
				t.Errorf("%q, most %d of %d: %d %v", body, most, len(want), len(got), ok)
			}
		}
		holdAll(t, p, want)
	}
}

// All programs of two threads of up to two of a few instructions.
func Test11_2AllOfShortThreads(t *testing.T) {
	few := []api.Ins{
		{Kind: api.IStore, Loc: 'x', A: register(0)},
		{Kind: api.IStore, Loc: 'y', A: number(1)},
		{Kind: api.ILoad, Reg: 0, Loc: 'x'},
		{Kind: api.ILoad, Reg: 0, Loc: 'y'},
		{Kind: api.ICas, Reg: 0, Loc: 'x', A: number(0), B: number(1)},
		{Kind: api.ICas, Reg: 0, Loc: 'x', A: number(1), B: register(0)},
		{Kind: api.ICas, Reg: 1, Loc: 'y', A: register(0), B: number(2)},
		{Kind: api.IFence},
	}
	lists := [][]api.Ins{nil}
	for _, a := range few {
		lists = append(lists, []api.Ins{a})
		for _, b := range few {
			lists = append(lists, []api.Ins{a, b})
		}
	}
	// A skip has something behind it, so it stands between.
	for _, a := range few[2:5] {
		for _, b := range few[:3] {
			lists = append(lists, []api.Ins{a, {Kind: api.ISkip, A: register(0), B: number(1), N: 1}, b})
		}
	}
	for _, a := range lists {
		for _, b := range lists {
			p := ready(t, api.Test{Name: "a", Threads: [][]api.Ins{a, b}})
			want, _ := forwards(p, 10000)
			got, ok := All(p, 10000)
			if !ok || !slices.EqualFunc(got, want, func(a, b api.Exec) bool { return before(a, b) == 0 }) {
				t.Fatalf("%v: %v\n%s\nwant\n%s", p, ok, lines(got), lines(want))
			}
		}
	}
}

func Test11_2AllOfAny(t *testing.T) {
	r := rand.New(rand.NewSource(116))
	const cap = 400
	threads, great := map[int]int{}, 0
	for range 4000 {
		p := ready(t, anyTest(r, 4, 5))
		want, ok := forwards(p, cap)
		if !ok {
			great++
			if got, ok := All(p, cap); ok || len(got) > 0 {
				t.Fatalf("%v: %d %v", p, len(got), ok)
			}
			continue
		}
		if len(want) > 1 {
			threads[len(p.Threads)]++
		}
		got, ok := All(p, cap)
		if !ok || !slices.EqualFunc(got, want, func(a, b api.Exec) bool { return before(a, b) == 0 }) {
			t.Fatalf("%v: %v\n%s\nwant\n%s", p, ok, lines(got), lines(want))
		}
		if got, ok := All(p, len(want)-1); ok || len(got) > 0 {
			t.Fatalf("%v: %d %v, want none of %d", p, len(got), ok, len(want))
		}
	}
	for n := 1; n <= 4; n++ {
		if threads[n] < 150 {
			t.Error("too few of", n, "threads:", threads)
		}
	}
	if great < 200 {
		t.Error("only", great, "great ones")
	}
}

// guess calls see with each execution whose reads have values from 0 to 3, each
// with each RF that is a place, and one CO: what All should be, if it asked Ok
// of everything.
func guess(p api.Prog, see func(x api.Exec)) {
	var threads func(k int, evs []api.Ev)
	var sources func(x api.Exec)
	sources = func(x api.Exec) {
		at := len(x.RF)
		if at == len(x.Evs) {
			see(x)
			return
		}
		if !isRead(x.Evs[at]) {
			sources(api.Exec{Evs: x.Evs, RF: append(slices.Clone(x.RF), -1)})
			return
		}
		for from := range x.Evs {
			sources(api.Exec{Evs: x.Evs, RF: append(slices.Clone(x.RF), from)})
		}
	}
	threads = func(k int, evs []api.Ev) {
		if k == len(p.Threads) {
			sources(api.Exec{Evs: evs})
			return
		}
		var longer func(values []int64)
		longer = func(values []int64) {
			does, next := told(p.Threads[k], k, values)
			if next == -1 {
				threads(k+1, slices.Concat(evs, does))
				return
			}
			for v := range int64(4) {
				longer(append(slices.Clone(values), v))
			}
		}
		longer(nil)
	}
	threads(0, begins(p.Init...))
}

// All is just what Ok takes of all that could be guessed.
func Test11_2AllIsAllThatIsOk(t *testing.T) {
	for _, body := range []string{
		"thread { r0 = load x ; store x r0 ; }",
		"thread { r0 = load x ; r0 = r0 ^ 1 ; store x r0 ; r1 = load x ; }",
		"thread { r0 = load x ; store y r0 ; } thread { r0 = load y ; store x r0 ; }",
		"thread { r0 = load x ; store y r0 ; } thread { r0 = load y ; r0 = r0 + 1 ; r0 = r0 & 3 ; store x r0 ; }",
		"thread { r0 = load x ; skip 1 if r0 == 0 ; store y 1 ; } thread { r0 = load y ; skip 1 if r0 == 0 ; store x 1 ; }",
		"thread { r0 = cas x 1 1 ; } thread { r0 = cas x 2 2 ; store x 3 ; }",
		"thread { r0 = cas x 0 1 ; r1 = cas x 1 2 ; } thread { r0 = cas x 2 0 ; }",
		"thread { r0 = load x ; store y 1 ; } thread { r0 = load y ; store z 1 ; } thread { r0 = load z ; store x 1 ; }",
		"init { x = 3 ; } thread { r0 = load x ; } thread { store x 2 ; r1 = load x ; } thread { store x 2 ; }",
	} {
		p := compile(t, body)
		f := &forward{p: p, cap: 1 << 30}
		guess(p, func(x api.Exec) {
			// Each CO that is right for one RF is right for all of them: ask
			// first of one of them.
			for loc := range p.Locs {
				x.CO = append(x.CO, writesTo(x.Evs, loc))
			}
			if want := okay(p, x); Ok(p, x) != want {
				t.Fatalf("%s: %s is not Ok: %v", body, Text(x), want)
			} else if want {
				x.CO = nil
				f.ordered(x)
			}
		})
		slices.SortFunc(f.found, before)
		holdAll(t, p, f.found)
	}
}

// As many threads, instructions and locations as a test may have.
func Test11_2AllOfTheGreatest(t *testing.T) {
	rep := strings.Repeat
	for body, want := range map[string]int{
		"thread { " + rep("fence ; ", 10) + "} thread { " + rep("fence ; ", 10) + "} thread { fence ; } thread { fence ; fence ; fence ; }": 1,
		rep("thread { r0 = load w ; r1 = load x ; r2 = load y ; r3 = load z ; fence ; fence ; } ", 4):                                       1,
		// The last event of the last thread is read by the last of each other one.
		"thread { " + rep("fence ; ", 9) + "r0 = load x ; } thread { fence ; fence ; r0 = load x ; } thread { } thread { " + rep("fence ; ", 9) + "store x 1 ; }": 4,
		"thread { " + rep("fence ; ", 9) + "store x 1 ; } thread { } thread { fence ; fence ; r0 = load x ; } thread { " + rep("fence ; ", 9) + "r0 = load x ; }": 4,
		"thread { " + rep("fence ; ", 9) + "r0 = cas x 0 1 ; } thread { } thread { } thread { " + rep("fence ; ", 9) + "r0 = cas x 0 2 ; }":                       4,
	} {
		p := compile(t, body)
		all, ok := All(p, 100)
		if !ok || len(all) != want {
			t.Errorf("%q: %d %v", body, len(all), ok)
		}
		holdRising(t, p, all)
		forward, _ := forwards(p, 100)
		holdAll(t, p, forward)
	}
}

// Each read of a great program turned, in each thread: where one key has room
// for the sources of all events, none is taken for another.
func Test11_2EachPlaceIsTurned(t *testing.T) {
	for k := range 4 {
		for i := range 10 {
			bodies := []string{"fence ; ", "fence ; ", "fence ; ", "fence ; "}
			bodies[k] = strings.Repeat("fence ; ", i) + "r0 = load x ; " + strings.Repeat("fence ; ", 9-i)
			for u := range 4 {
				lists := slices.Clone(bodies)
				if u != k {
					lists[u] = strings.Repeat("fence ; ", i) + "store x 9 ; "
				}
				body := ""
				for _, list := range lists {
					body += "thread { " + list + "} "
				}
				want, _ := forwards(compile(t, body), 10)
				holdAll(t, compile(t, body), want)
				if len(want) != 2 && u != k {
					t.Error(body, len(want))
				}
			}
		}
	}
}

// Ways: keys are values, and tell executions that are unlike in more than CO
// apart: as many keys as there are rows of events and sources.
func Test11_2KeysTellApart(t *testing.T) {
	r := rand.New(rand.NewSource(117))
	for range 1500 {
		p := ready(t, anyTest(r, 4, 5))
		s := &search{p: p, inits: event.Inits(p), most: 2000, seen: map[sources]struct{}{}}
		if !s.run() {
			continue
		}
		texts := map[string]sources{}
		for _, w := range s.weaves {
			text := Text(s.plain(w))
			if key, ok := texts[text]; ok {
				t.Fatalf("%v: %v and %v are both %s", p, key, w.from, text)
			}
			texts[text] = w.from
		}
		if len(texts) != len(s.seen) || len(s.weaves) != len(s.seen) {
			t.Fatal(p, len(texts), len(s.seen), len(s.weaves))
		}
	}
}

// Candidates of which all have the same events, but not the same sources, and
// some the same sources, but not the same orders.
func Test11_2OrderOfAll(t *testing.T) {
	p := compile(t, "thread { store x 1 ; store x 1 ; } thread { r0 = load x ; r1 = load x ; store y 3 ; } thread { store y 3 ; }")
	all, ok := All(p, 1000)
	if !ok || len(all) != 9*4 {
		t.Fatal(len(all), ok)
	}
	parted := map[string]int{}
	for at := 1; at < len(all); at++ {
		a, b := all[at-1], all[at]
		switch {
		case !slices.Equal(a.Evs, b.Evs):
			parted["events"]++
		case !slices.Equal(a.RF, b.RF):
			parted["sources"]++
		case !slices.Equal(a.CO[0], b.CO[0]):
			parted["first order"]++
		default:
			parted["last order"]++
		}
	}
	// Each of 9 has 4 orders; the values that are read are 00, 01, 10 and 11.
	if want := (map[string]int{"events": 3, "sources": 5, "first order": 9, "last order": 18}); fmt.Sprint(parted) != fmt.Sprint(want) {
		t.Error(parted)
	}
	holdRising(t, p, all)
}

// W2: nothing comes from nowhere. What is read was written, by one who did not
// have to know of the read.
func Test11_3NothingFromNowhere(t *testing.T) {
	r := rand.New(rand.NewSource(118))
	readings := 0
	for range 4000 {
		p := ready(t, anyTest(r, 4, 6))
		all, _ := All(p, 300)
		for _, x := range all {
			for at, e := range x.Evs {
				if !isRead(e) {
					continue
				}
				readings++
				from := x.RF[at]
				if from < 0 || from == at || !isWrite(x.Evs[from]) || x.Evs[from].Loc != e.Loc || x.Evs[from].W != e.R {
					t.Fatalf("%v: event %d of %s", p, at, Text(x))
				}
			}
			if !isGrounded(x) {
				t.Fatalf("%v: %s hangs on itself", p, Text(x))
			}
		}
	}
	if readings < 50_000 {
		t.Error(readings)
	}
}

// What could only be if it were already.
func Test11_3OutOfThinAir(t *testing.T) {
	for body, values := range map[string][]int64{
		"thread { r0 = load x ; store y r0 ; } thread { r0 = load y ; store x r0 ; }":                                         {0},
		"init { x = 5 ; } thread { r0 = load x ; store y r0 ; } thread { r0 = load y ; store x r0 ; }":                        {0, 5},
		"thread { r0 = load x ; store x r0 ; }":                                                                               {0},
		"thread { r0 = load x ; r0 = r0 + 1 ; store x r0 ; }":                                                                 {0},
		"thread { r0 = load x ; r0 = r0 + 1 ; store y r0 ; } thread { r0 = load y ; store x r0 ; }":                           {0, 1},
		"thread { r0 = load x ; skip 1 if r0 == 0 ; store y 42 ; } thread { r0 = load y ; skip 1 if r0 == 0 ; store x 42 ; }": {0},
		"thread { r0 = load x ; skip 1 if r0 == 42 ; skip 1 if 0 == 0 ; store x 42 ; }":                                       {0},
		"thread { r0 = cas x 7 7 ; }":                             {0},
		"thread { r0 = cas x 7 8 ; } thread { r0 = cas x 8 7 ; }": {0},
		"thread { r0 = load w ; store x r0 ; } thread { r0 = load x ; store y r0 ; } thread { r0 = load y ; store z r0 ; } thread { r0 = load z ; store w r0 ; }": {0},
		"thread { r0 = load x ; store y 1 ; } thread { r0 = load y ; store x r0 ; }":                                                                              {0, 1},
	} {
		p := compile(t, body)
		all, ok := All(p, 1000)
		if !ok || len(all) == 0 {
			t.Fatal(body, len(all), ok)
		}
		var got []int64
		for _, x := range all {
			for _, e := range x.Evs {
				if isRead(e) {
					got = append(got, e.R)
				}
			}
		}
		slices.Sort(got)
		if got = slices.Compact(got); !slices.Equal(got, values) {
			t.Errorf("%q: reads %v, want %v", body, got, values)
		}
	}
}

// Each program has a candidate: the one that reads nothing but the Inits.
func Test11_3OneAtLeast(t *testing.T) {
	r := rand.New(rand.NewSource(119))
	for range 3000 {
		p := ready(t, anyTest(r, 4, 6))
		if all, ok := All(p, 0); ok || len(all) > 0 {
			t.Fatal(p, len(all), ok)
		}
		all, ok := All(p, 2000)
		if !ok {
			continue
		}
		plain := slices.IndexFunc(all, func(x api.Exec) bool {
			return !slices.ContainsFunc(x.RF, func(from int) bool { return from >= len(p.Locs) })
		})
		if plain < 0 {
			t.Fatalf("%v: none of %d", p, len(all))
		}
	}
}

// Programs of the greatest size, of every kind: All ends soon, whatever the
// number of its candidates.
func Test11_4AllEnds(t *testing.T) {
	r := rand.New(rand.NewSource(120))
	few := map[bool]int{}
	for range 60 {
		test := api.Test{Name: "a"}
		for range 4 {
			list := make([]api.Ins, 6)
			operand := func() api.Operand {
				if r.Intn(2) == 0 {
					return number(int64(r.Intn(4)))
				}
				return register(r.Intn(2))
			}
			for at := range list {
				list[at] = anyIns(r, operand, int("wxyz"[r.Intn(4)]), len(list)-at-1)
			}
			test.Threads = append(test.Threads, list)
		}
		p := ready(t, test)
		all, ok := All(p, math.MaxInt)
		few[ok]++
		if !ok && len(all) > 0 {
			t.Fatal(p)
		}
	}
	if few[true] == 0 || few[false] == 0 {
		t.Error(few)
	}
	rep := strings.Repeat
	for _, body := range []string{
		rep("thread { "+rep("r0 = cas x 0 1 ; ", 6)+"} ", 4),
		rep("thread { "+rep("r0 = cas x 7 1 ; ", 6)+"} ", 4),
		rep("thread { "+rep("store x 1 ; ", 6)+"} ", 4),
		rep("thread { "+rep("r0 = load x ; store x r0 ; ", 3)+"} ", 4),
		rep("thread { "+rep("r0 = load x ; ", 5)+"r1 = cas x 9 9 ; } ", 4),
		"thread { " + rep("store w 1 ; ", 10) + "} thread { " + rep("store x 1 ; ", 10) + "} thread { store y 1 ; store z 1 ; store y 1 ; store z 1 ; }",
	} {
		All(compile(t, body), math.MaxInt)
	}
}
