package play

import (
	"fmt"
	"math"
	"math/rand"
	"slices"
	"strings"
	"testing"

	"jacquard/api"
	"jacquard/prog"
	"jacquard/well"
)

const most, least = math.MaxInt64, math.MinInt64

// bodies are small tests of one to four threads, with each kind of instruction.
var bodies = []string{
	"thread { }",
	"thread { r0 = 1 ; } thread { }",
	"init { x = 7 ; y = -7 ; } thread { } exists z = 1 ;",
	"thread { fence ; } thread { fence ; fence ; }",
	"thread { store x 1 ; r0 = load x ; }",
	"thread { store x 1 ; store x 2 ; store y 3 ; store x 4 ; fence ; r0 = load x ; r1 = load y ; }",
	"thread { store x 1 ; r0 = load y ; } thread { store y 1 ; r0 = load x ; }",
	"thread { store x 1 ; fence ; r0 = load y ; } thread { store y 1 ; r0 = load x ; }",
	"thread { store x 1 ; store y 1 ; } thread { r0 = load y ; r1 = load x ; }",
	"thread { store x 1 ; store y 2 ; } thread { store y 1 ; store x 2 ; }",
	"thread { store x 1 ; store x 2 ; r0 = load x ; } thread { store x 3 ; r0 = load x ; }",
	"thread { r0 = cas x 0 1 ; } thread { r0 = cas x 0 2 ; } thread { r0 = cas x 1 3 ; }",
	"thread { store x 1 ; r1 = cas z 0 0 ; r0 = load y ; } thread { store y 1 ; r1 = cas z 0 0 ; r0 = load x ; }",
	"init { x = 4 ; } thread { r0 = cas x 4 6 ; store x 6 ; } thread { r0 = cas x 6 5 ; r1 = cas x r0 r0 ; }",
	"thread { r0 = load x ; r0 = r0 + 1 ; store x r0 ; } thread { r0 = load x ; r0 = r0 + 1 ; store x r0 ; }",
	"thread { r0 = load x ; skip 1 if r0 == 0 ; store y 1 ; fence ; r1 = load y ; } thread { store x 1 ; r0 = load y ; }",
	"thread { store x 1 ; } thread { store x 2 ; } thread { r0 = load x ; r1 = load x ; }",
	"thread { store x 1 ; } thread { } thread { store z 1 ; } thread { r0 = cas w 0 1 ; }",
	"thread { store w 1 ; store x 2 ; store y 3 ; store z 4 ; } thread { r0 = load z ; }",
	"thread { store x 1 ; fence ; } thread { } thread { } thread { store x 2 ; r1 = cas x 1 3 ; }",
	"init { x = 9223372036854775807 ; } thread { r0 = load x ; r0 = r0 + 1 ; store y r0 ; } thread { r0 = cas y -9223372036854775808 9223372036854775807 ; }",
}

// tell is what Run is to tell of a row.
type tell struct {
	steps []api.Step
	at    int
	done  bool
}

// hold holds what is told of a row against a plain machine.
func hold(t *testing.T, p api.Prog, m int, picks []int) tell {
	t.Helper()
	w := newPlain(p, m)
	for _, i := range picks {
		if !w.may(i) {
			break
		}
		w.pick(i)
	}
	x := tell{w.steps, len(w.steps), w.ended()}
	holdTold(t, p, m, picks, x, w.final())
	return x
}

// holdTold holds what is told of a row against x, and its end against f, if it is
// Maximal.
func holdTold(t *testing.T, p api.Prog, m int, picks []int, x tell, f api.Final) {
	t.Helper()
	steps, at, done := Run(p, m, picks)
	if !slices.Equal(steps, x.steps) || at != x.at || done != x.done {
		t.Fatalf("%v, model %d, %v: %v %v %v, want %v", p, m, picks, steps, at, done, x)
	}
	whole := x.done && x.at == len(picks)
	if got := Maximal(p, m, picks); got != whole {
		t.Fatalf("%v, model %d, %v: Maximal %v", p, m, picks, got)
	}
	if !whole {
		f = api.Final{}
	}
	if got, ok := Final(p, m, picks); ok != whole || got != f {
		t.Fatalf("%v, model %d, %v: Final %v %v, want %v %v", p, m, picks, got, ok, f, whole)
	}
}

// holdNone holds that there is no machine for p by m, whatever the row.
func holdNone(t *testing.T, p api.Prog, m int, picks []int) {
	t.Helper()
	holdTold(t, p, m, picks, tell{}, api.Final{})
	if a, b := First(p, m), Lazy(p, m); len(a) != 0 || len(b) != 0 {
		t.Fatalf("%v, model %d: First %v, Lazy %v of no machine", p, m, a, b)
	}
}

// everyRow visits each row whose picks are all enabled, with the machine behind
// it: the empty one first, and each ahead of those that go on from it.
func everyRow(w *plain, row []int, visit func(row []int, w *plain)) {
	visit(row, w)
	for _, i := range w.enabled() {
		c := w.copy()
		c.pick(i)
		everyRow(c, append(slices.Clip(row), i), visit)
	}
}

// Each row of small tests, and each with picks behind it that are not enabled, and
// others behind those.
func Test17_1EveryRow(t *testing.T) {
	for _, body := range bodies {
		p := compile(t, body)
		for _, m := range models {
			at := 0
			everyRow(newPlain(p, m), nil, func(row []int, w *plain) {
				if x := hold(t, p, m, row); x.at != len(row) || x.done != w.ended() {
					t.Fatalf("%q, model %d, %v: %v", body, m, row, x)
				}
				// All picks come about, but not all of them behind each row.
				at++
				for _, i := range []int{-1, at % 24, (at + 7) % 26, (at + 13) % 24} {
					more := append(slices.Clone(row), i, 0, 1, 5, 0)
					if x := hold(t, p, m, more); !w.may(i) && x.at != len(row) {
						t.Fatalf("%q, model %d, %v: %v", body, m, more, x)
					}
				}
			})
		}
	}
}

// anyRow is a row of picks that are enabled, and, each one time in odds, of any.
func anyRow(r *rand.Rand, p api.Prog, m, length, odds int) []int {
	w := newPlain(p, m)
	var row []int
	for range length {
		may := w.enabled()
		i := r.Intn(26) - 1
		if len(may) > 0 && r.Intn(odds) > 0 {
			i = may[r.Intn(len(may))]
		}
		if w.may(i) {
			w.pick(i)
		}
		row = append(row, i)
	}
	return row
}

// Rows of picks by numbers, of tests up to the greatest: cut anywhere, refused
// anywhere, and with more behind the end.
func Test17_1AnyRow(t *testing.T) {
	r := rand.New(rand.NewSource(171))
	whole, cut, refused, behind := 0, 0, 0, 0
	for round := range 3000 {
		p, m := ready(t, anyTest(r, 4, 10)), models[round%3]
		row := anyRow(r, p, m, r.Intn(60), 40)
		if x := hold(t, p, m, row); x.done && round%2 > 0 {
			row = row[:x.at]
		}
		switch x := hold(t, p, m, row); {
		case x.at < len(row) && x.done:
			behind++
		case x.at < len(row):
			refused++
		case x.done:
			whole++
		default:
			cut++
		}
	}
	if min(whole, cut, refused, behind) < 100 {
		t.Error(whole, cut, refused, behind)
	}
}

// What a row comes to as it stands on paper.
func Test17_1OnPaper(t *testing.T) {
	const body = "init { y = 9 ; } thread { store x 1 ; r0 = load y ; } thread { store y 2 ; r0 = load x ; r1 = cas x 1 3 ; }"
	p := compile(t, body)
	for _, x := range []struct {
		m     int
		picks []int
		steps []api.Step
		end   api.Final
	}{
		{api.MSC, []int{0, 1, 0, 1, 1}, []api.Step{
			{Pick: 0, T: 0, Kind: api.EWrite, Loc: 0, W: 1, From: -1},
			{Pick: 1, T: 1, Kind: api.EWrite, Loc: 1, W: 2, From: -1},
			{Pick: 0, T: 0, Kind: api.ERead, Loc: 1, R: 2, From: 1},
			{Pick: 1, T: 1, Kind: api.ERead, Loc: 0, R: 1, From: 0},
			{Pick: 1, T: 1, Kind: api.EWon, Loc: 0, R: 1, W: 3, From: 0},
		}, api.Final{Regs: [4][4]int64{{2}, {1, 1}}, Mem: [4]int64{3, 2}}},
		{api.MTSO, []int{0, 0, 1, 1, 5, 1, 4}, []api.Step{
			{Pick: 0, T: 0, Kind: api.EWrite, Loc: 0, W: 1, From: -1},
			{Pick: 0, T: 0, Kind: api.ERead, Loc: 1, R: 9, From: -1},
			{Pick: 1, T: 1, Kind: api.EWrite, Loc: 1, W: 2, From: -1},
			{Pick: 1, T: 1, Kind: api.ERead, Loc: 0, R: 0, From: -1},
			{Pick: 5, T: 1, Kind: api.EFlush, Loc: 1, W: 2, From: 2},
			{Pick: 1, T: 1, Kind: api.ELost, Loc: 0, R: 0, From: -1},
			{Pick: 4, T: 0, Kind: api.EFlush, Loc: 0, W: 1, From: 0},
		}, api.Final{Regs: [4][4]int64{{9}, {0, 0}}, Mem: [4]int64{1, 2}}},
		{api.MPSO, []int{1, 0, 13, 0, 8, 1, 1}, []api.Step{
			{Pick: 1, T: 1, Kind: api.EWrite, Loc: 1, W: 2, From: -1},
			{Pick: 0, T: 0, Kind: api.EWrite, Loc: 0, W: 1, From: -1},
			{Pick: 13, T: 1, Kind: api.EFlush, Loc: 1, W: 2, From: 0},
			{Pick: 0, T: 0, Kind: api.ERead, Loc: 1, R: 2, From: 0},
			{Pick: 8, T: 0, Kind: api.EFlush, Loc: 0, W: 1, From: 1},
			{Pick: 1, T: 1, Kind: api.ERead, Loc: 0, R: 1, From: 1},
			{Pick: 1, T: 1, Kind: api.EWon, Loc: 0, R: 1, W: 3, From: 1},
		}, api.Final{Regs: [4][4]int64{{2}, {1, 1}}, Mem: [4]int64{3, 2}}},
	} {
		for n := range x.picks {
			holdTold(t, p, x.m, x.picks[:n], tell{x.steps[:n], n, false}, api.Final{})
		}
		holdTold(t, p, x.m, x.picks, tell{x.steps, len(x.steps), true}, x.end)
	}
}

// The edges: where rows are refused, where they end, and what is behind them.
func Test17_1Edges(t *testing.T) {
	const buffered = "thread { store x 1 ; r0 = load y ; } thread { store y 1 ; r0 = load x ; }"
	const fenced = "thread { store x 1 ; fence ; } thread { store y 1 ; }"
	for _, x := range []struct {
		body  string
		m     int
		picks []int
		at    int
		done  bool
	}{
		{buffered, api.MSC, nil, 0, false},
		{buffered, api.MSC, []int{}, 0, false},
		{buffered, api.MSC, []int{2}, 0, false},
		{buffered, api.MSC, []int{4, 0, 0, 1, 1}, 0, false},
		{buffered, api.MSC, []int{-1, 0, 0, 1, 1}, 0, false},
		{buffered, api.MSC, []int{0}, 1, false},
		{buffered, api.MSC, []int{0, 0, 1}, 3, false},
		{buffered, api.MSC, []int{0, 0, 0, 1, 1}, 2, false},
		{buffered, api.MSC, []int{0, 24, 0, 1, 1}, 1, false},
		{buffered, api.MSC, []int{0, 0, 1, 1}, 4, true},
		{buffered, api.MSC, []int{0, 0, 1, 1, 0}, 4, true},
		{buffered, api.MSC, []int{0, 0, 1, 1, 4}, 4, true},
		{buffered, api.MSC, []int{0, 0, 1, 1, -1, -1}, 4, true},
		{buffered, api.MTSO, []int{4}, 0, false},
		{buffered, api.MTSO, []int{0, 5}, 1, false},
		{buffered, api.MTSO, []int{0, 8}, 1, false},
		{buffered, api.MTSO, []int{0, 4, 4}, 2, false},
		{buffered, api.MTSO, []int{0, 0, 1, 1}, 4, false},
		{buffered, api.MTSO, []int{0, 0, 1, 1, 4}, 5, false},
		{buffered, api.MTSO, []int{0, 0, 1, 1, 4, 5}, 6, true},
		{buffered, api.MTSO, []int{0, 0, 1, 1, 4, 5, 5}, 6, true},
		{buffered, api.MPSO, []int{0, 4}, 1, false},
		{buffered, api.MPSO, []int{0, 9}, 1, false},
		{buffered, api.MPSO, []int{0, 12}, 1, false},
		{buffered, api.MPSO, []int{0, 8, 1, 1, 0}, 5, false},
		{buffered, api.MPSO, []int{0, 8, 1, 1, 0, 13}, 6, true},
		{fenced, api.MSC, []int{0, 0, 1}, 3, true},
		{fenced, api.MTSO, []int{0, 0, 1}, 1, false},
		{fenced, api.MTSO, []int{0, 4, 0, 1, 5}, 5, true},
		{fenced, api.MPSO, []int{0, 1, 13, 0}, 3, false},
		{fenced, api.MPSO, []int{0, 1, 13, 8, 0}, 5, true},
		{"thread { }", api.MSC, nil, 0, true},
		{"thread { }", api.MSC, []int{}, 0, true},
		{"thread { }", api.MSC, []int{0}, 0, true},
		{"thread { }", api.MTSO, []int{4, 0}, 0, true},
		{"thread { r0 = 1 ; } thread { }", api.MPSO, nil, 0, true},
		{"thread { r0 = 1 ; } thread { }", api.MPSO, []int{8}, 0, true},
		{"thread { skip 1 if 0 == 0 ; fence ; }", api.MTSO, nil, 0, true},
		{"thread { skip 1 if 0 == 1 ; fence ; }", api.MTSO, nil, 0, false},
	} {
		if got := hold(t, compile(t, x.body), x.m, x.picks); got.at != x.at || got.done != x.done {
			t.Errorf("%q, model %d, %v: %v %v", x.body, x.m, x.picks, got.at, got.done)
		}
	}
}

// A program or a model of which there is no machine.
func Test17_1NoMachine(t *testing.T) {
	rows := [][]int{nil, {}, {0}, {0, 0, 1, 1}, {-1}, {24}, {4, 8}}
	for _, body := range bodies {
		p := compile(t, body)
		for _, m := range odd {
			for _, row := range rows {
				if slices.Contains(models, m) {
					hold(t, p, m, row)
				} else {
					holdNone(t, p, m, row)
				}
			}
		}
	}
	fence := api.Ins{Kind: api.IFence}
	for _, p := range []api.Prog{
		{},
		{Threads: make([][]api.Ins, 5)},
		{Threads: [][]api.Ins{slices.Repeat([]api.Ins{fence}, 11)}},
		{Locs: []byte("x"), Threads: [][]api.Ins{{fence}}},
		{Init: []int64{1}, Threads: [][]api.Ins{{fence}}},
		{Locs: []byte("yx"), Init: []int64{0, 0}, Threads: [][]api.Ins{{fence}}},
		{Threads: [][]api.Ins{{{Kind: api.ILoad}}}},
		{Threads: [][]api.Ins{{{Kind: 7}}}},
	} {
		for _, m := range []int{api.MSC, api.MTSO, api.MPSO, 0, 4} {
			for _, row := range rows {
				holdNone(t, p, m, row)
			}
		}
	}
}

// First is the least of all Maximal rows, place by place, Lazy the greatest.
func Test17_1FirstAndLazyOfEveryRow(t *testing.T) {
	for _, body := range bodies {
		p := compile(t, body)
		for _, m := range models {
			var rows [][]int
			everyRow(newPlain(p, m), nil, func(row []int, w *plain) {
				if w.ended() {
					rows = append(rows, slices.Clone(row))
				}
			})
			want := slices.MinFunc(rows, slices.Compare[[]int])
			if got := First(p, m); !slices.Equal(got, want) {
				t.Errorf("%q, model %d: First %v, want %v", body, m, got, want)
			}
			want = slices.MaxFunc(rows, slices.Compare[[]int])
			if got := Lazy(p, m); !slices.Equal(got, want) {
				t.Errorf("%q, model %d: Lazy %v, want %v", body, m, got, want)
			}
		}
	}
}

func Test17_1FirstAndLazyOnPaper(t *testing.T) {
	for _, x := range []struct {
		body        string
		m           int
		first, lazy string
	}{
		{"thread { }", api.MPSO, "[]", "[]"},
		{"thread { store x 1 ; fence ; } thread { store y 1 ; }", api.MSC, "[0 0 1]", "[1 0 0]"},
		{"thread { store x 1 ; fence ; } thread { store y 1 ; }", api.MTSO, "[0 1 4 0 5]", "[1 5 0 4 0]"},
		{"thread { store x 1 ; fence ; } thread { store y 1 ; }", api.MPSO, "[0 1 8 0 13]", "[1 13 0 8 0]"},
		{"thread { store y 1 ; store x 2 ; } thread { } thread { } thread { store b 1 ; store a 2 ; }", api.MTSO, "[0 0 3 3 4 4 7 7]", "[3 7 3 7 0 4 0 4]"},
		{"thread { store y 1 ; store x 2 ; } thread { } thread { } thread { store b 1 ; store a 2 ; }", api.MPSO, "[0 0 3 3 10 11 20 21]", "[3 21 3 20 0 11 0 10]"},
		{"thread { store x 1 ; store x 2 ; r0 = cas y 0 1 ; }", api.MTSO, "[0 0 4 4 0]", "[0 4 0 4 0]"},
	} {
		p := compile(t, x.body)
		if a, b := fmt.Sprint(First(p, x.m)), fmt.Sprint(Lazy(p, x.m)); a != x.first || b != x.lazy {
			t.Errorf("%q, model %d: %s %s, want %s %s", x.body, x.m, a, b, x.first, x.lazy)
		}
	}
}

// First and Lazy of any test are picked by a plain machine.
func Test17_1FirstAndLazyOfAny(t *testing.T) {
	r := rand.New(rand.NewSource(172))
	for range 1500 {
		p := ready(t, anyTest(r, 4, 10))
		for _, m := range models {
			var rows [2][]int
			for k, choose := range []func([]int) int{slices.Min[[]int], slices.Max[[]int]} {
				w := newPlain(p, m)
				for l := w.enabled(); len(l) > 0; l = w.enabled() {
					i := choose(l)
					w.pick(i)
					rows[k] = append(rows[k], i)
				}
			}
			if a, b := First(p, m), Lazy(p, m); !slices.Equal(a, rows[0]) || !slices.Equal(b, rows[1]) {
				t.Fatalf("%v, model %d: %v %v, want %v", p, m, a, b, rows)
			}
		}
	}
}

// holdEnd holds W4 of a Maximal row: all threads are at their ends and nothing
// waits, within twice the Size.
func holdEnd(t *testing.T, p api.Prog, m int, row []int) {
	t.Helper()
	w := newPlain(p, m)
	for _, i := range row {
		if !w.may(i) {
			t.Fatalf("%v, model %d, %v: %d is not enabled", p, m, row, i)
		}
		w.pick(i)
	}
	if !w.ended() || len(row) > 2*prog.Size(p) {
		t.Fatalf("%v, model %d, %v: something is left, or it is longer than twice %d", p, m, row, prog.Size(p))
	}
}

// W4: each row is refused at its first pick that is not enabled, or is taken; each
// Maximal one ends with nothing left, within twice the Size.
func Test17_2W4(t *testing.T) {
	for _, body := range bodies {
		p := compile(t, body)
		for _, m := range models {
			rows := 0
			everyRow(newPlain(p, m), nil, func(row []int, w *plain) {
				if Maximal(p, m, row) != (len(w.enabled()) == 0) {
					t.Fatalf("%q, model %d: Maximal of %v", body, m, row)
				}
				if Maximal(p, m, row) {
					holdEnd(t, p, m, row)
					rows++
				}
				for i := -1; i < 25; i += 2 {
					if _, at, _ := Run(p, m, append(slices.Clone(row), i)); !w.may(i) && at != len(row) || w.may(i) && at != len(row)+1 {
						t.Fatalf("%q, model %d: %d behind %v: %d taken", body, m, i, row, at)
					}
				}
			})
			if rows == 0 {
				t.Errorf("%q, model %d: no Maximal row", body, m)
			}
		}
	}
}

// W4 of any tests: First, Lazy, and any row gone on to its end.
func Test17_2W4Any(t *testing.T) {
	r := rand.New(rand.NewSource(173))
	for range 1000 {
		p := ready(t, anyTest(r, 4, 10))
		for _, m := range models {
			row := anyRow(r, p, m, 48, 1000)
			_, at, done := Run(p, m, row)
			if done != Maximal(p, m, row[:at]) {
				t.Fatalf("%v, model %d, %v: %d %v", p, m, row, at, done)
			}
			rows := [][]int{First(p, m), Lazy(p, m)}
			if done {
				rows = append(rows, row[:at])
			}
			for _, row := range rows {
				if !Maximal(p, m, row) {
					t.Fatalf("%v, model %d, %v is not Maximal", p, m, row)
				}
				holdEnd(t, p, m, row)
			}
		}
	}
}

// The longest rows that there are: 24 stores, each of which waits.
func Test17_2TwiceTheSize(t *testing.T) {
	text := "thread { " + strings.Repeat("store x 1 ; ", 6) + "} "
	test, err := well.Read("test a { " + strings.Repeat(text, 4) + "}")
	if err.Code != api.OK {
		t.Fatal(err)
	}
	p := ready(t, test)
	for _, m := range models {
		want := 48
		if m == api.MSC {
			want = 24
		}
		for _, row := range [][]int{First(p, m), Lazy(p, m)} {
			if len(row) != want || prog.Size(p) != 24 {
				t.Errorf("model %d: %d picks of %d", m, len(row), prog.Size(p))
			}
			holdEnd(t, p, m, row)
			hold(t, p, m, row)
			hold(t, p, m, append(row, row...))
		}
	}
}
