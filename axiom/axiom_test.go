package axiom

import (
	"math"
	"math/rand"
	"slices"
	"strconv"
	"strings"
	"testing"

	"jacquard/api"
	"jacquard/exec"
	"jacquard/print"
	"jacquard/prog"
	"jacquard/rel"
	"jacquard/well"
)

var models = []int{api.MSC, api.MTSO, api.MPSO}

// strangers are no models. Some of them are 1 to 3 when they are cut to few bits.
var strangers = []int{0, 4, 5, 6, 7, 8, -1, -2, -3, 63, 64, 65, 66, 67, 255, 256, 257, 1 << 32, 1<<32 + 1, 1<<32 + 2, -1 << 32, math.MinInt, math.MinInt + 1, math.MinInt + 2, math.MaxInt - 1, math.MaxInt}

func number(n int64) api.Operand { return api.Operand{Reg: -1, Value: n} }

func register(r int) api.Operand { return api.Operand{Reg: r} }

func reads(loc int, r int64) api.Ev { return api.Ev{Kind: 1, Loc: loc, R: r} }

func writes(loc int, w int64) api.Ev { return api.Ev{Kind: 2, Loc: loc, W: w} }

func fences() api.Ev { return api.Ev{Kind: 3} }

func won(loc int, r, w int64) api.Ev { return api.Ev{Kind: 4, Loc: loc, R: r, W: w} }

func lost(loc int, r int64) api.Ev { return api.Ev{Kind: 5, Loc: loc, R: r} }

// begins is the events at the beginning, if places 0, 1 and so on begin with w.
func begins(w ...int64) []api.Ev {
	var evs []api.Ev
	for loc, n := range w {
		evs = append(evs, api.Ev{T: -1, I: loc, Kind: 2, Loc: loc, W: n})
	}
	return evs
}

// row is the events as those of thread k, one after the other.
func row(k int, evs ...api.Ev) []api.Ev {
	list := slices.Clone(evs)
	for i := range list {
		list[i].T, list[i].I = k, i
	}
	return list
}

func ready(t *testing.T, test api.Test) api.Prog {
	t.Helper()
	p, code := prog.Compile(test)
	if code != api.OK {
		t.Fatal(code, print.Test(test))
	}
	return p
}

func compile(t *testing.T, body string) api.Prog {
	t.Helper()
	test, err := well.Read("test a { " + body + " }")
	if err.Code != api.OK {
		t.Fatalf("%q: %v", body, err)
	}
	return ready(t, test)
}

// copyOf shares no memory with x.
func copyOf(x api.Exec) api.Exec {
	y := api.Exec{Evs: slices.Clone(x.Evs), RF: slices.Clone(x.RF)}
	for _, row := range x.CO {
		y.CO = append(y.CO, slices.Clone(row))
	}
	return y
}

// anyTest makes small tests in which threads often meet.
func anyTest(r *rand.Rand, threads, length int) api.Test {
	locs := "xyza"[:1+r.Intn(4)]
	operand := func() api.Operand {
		if r.Intn(3) > 0 {
			return number([]int64{0, 0, 1, 1, 2, -1}[r.Intn(6)])
		}
		return register(r.Intn(2))
	}
	t := api.Test{Name: "a"}
	for _, place := range r.Perm(len(locs))[:r.Intn(len(locs)+1)] {
		t.Init = append(t.Init, api.Init{Loc: int(locs[place]), Value: int64(r.Intn(3))})
	}
	for range 1 + r.Intn(threads) {
		list := make([]api.Ins, r.Intn(length+1))
		for at := range list {
			list[at] = anyIns(r, operand, int(locs[r.Intn(len(locs))]), len(list)-at-1)
		}
		t.Threads = append(t.Threads, list)
	}
	return t
}

// anyIns has left instructions behind it.
func anyIns(r *rand.Rand, operand func() api.Operand, loc, left int) api.Ins {
	switch kind := r.Intn(11); {
	case kind < 3:
		return api.Ins{Kind: api.IStore, Loc: loc, A: operand()}
	case kind < 6:
		return api.Ins{Kind: api.ILoad, Reg: r.Intn(2), Loc: loc}
	case kind < 8:
		return api.Ins{Kind: api.ICas, Reg: r.Intn(2), Loc: loc, A: operand(), B: operand()}
	case kind == 8:
		return api.Ins{Kind: api.IFence}
	case kind == 9 && left > 0:
		return api.Ins{Kind: api.ISkip, A: operand(), B: operand(), N: 1 + r.Intn(left)}
	}
	i := api.Ins{Kind: api.ISet, Reg: r.Intn(2), A: operand(), B: number(0)}
	if i.Op = r.Intn(7); i.Op > 0 {
		i.B = operand()
	}
	return i
}

// weakTest makes tests in which models often are not of one mind: nearly all is
// stores and loads of two locations.
func weakTest(r *rand.Rand) api.Test {
	t := api.Test{Name: "a"}
	for range 2 + r.Intn(2) {
		list := make([]api.Ins, 2+r.Intn(2))
		for at := range list {
			loc := int("xy"[r.Intn(2)])
			switch kind := r.Intn(16); {
			case kind == 0:
				list[at] = api.Ins{Kind: api.IFence}
			case kind == 1:
				list[at] = api.Ins{Kind: api.ICas, Loc: loc, A: number(0), B: number(1)}
			case kind < 9:
				list[at] = api.Ins{Kind: api.IStore, Loc: loc, A: number(1)}
			default:
				list[at] = api.Ins{Kind: api.ILoad, Reg: 1, Loc: loc}
			}
		}
		t.Threads = append(t.Threads, list)
	}
	return t
}

// A second reckoning: each relation is asked of two places, by the chapter's
// words, and none leans on package rel.

func isPO(x api.Exec, a, b int) bool {
	return x.Evs[a].T != -1 && x.Evs[a].T == x.Evs[b].T && x.Evs[a].I < x.Evs[b].I
}

func isRF(x api.Exec, a, b int) bool { return x.RF[b] == a }

func isCO(x api.Exec, a, b int) bool {
	for _, row := range x.CO {
		if slices.Contains(row, a) && slices.Contains(row, b) && slices.Index(row, a) < slices.Index(row, b) {
			return true
		}
	}
	return false
}

func isFR(x api.Exec, a, b int) bool {
	return x.RF[a] != -1 && isCO(x, x.RF[a], b) && a != b
}

// hasFence tells if something that fences stands between a and b in their thread.
func hasFence(x api.Exec, a, b int) bool {
	for c, e := range x.Evs {
		if e.Kind >= 3 && isPO(x, a, c) && isPO(x, c, b) {
			return true
		}
	}
	return false
}

func isKept(m int, x api.Exec, a, b int) bool {
	if !isPO(x, a, b) || hasFence(x, a, b) {
		return isPO(x, a, b)
	}
	e, f := x.Evs[a], x.Evs[b]
	late := e.Kind == api.EWrite && f.Kind == api.ERead
	apart := e.Kind == api.EWrite && f.Kind == api.EWrite && e.Loc != f.Loc
	return map[int]bool{1: true, 2: !late, 3: !late && !apart}[m]
}

func isNear(x api.Exec, a, b int) bool {
	return isPO(x, a, b) && x.Evs[a].Kind != 3 && x.Evs[b].Kind != 3 && x.Evs[a].Loc == x.Evs[b].Loc
}

// hasRing takes away what nothing leads to, until nothing more can be.
func hasRing(n int, leads func(a, b int) bool) bool {
	left := make([]int, n)
	for at := range left {
		left[at] = at
	}
	for {
		free := slices.IndexFunc(left, func(b int) bool {
			return !slices.ContainsFunc(left, func(a int) bool { return leads(a, b) })
		})
		if free < 0 {
			return len(left) > 0
		}
		left = slices.Delete(left, free, free+1)
	}
}

func isUniproc(x api.Exec) bool {
	return !hasRing(len(x.Evs), func(a, b int) bool {
		return isNear(x, a, b) || isRF(x, a, b) || isCO(x, a, b) || isFR(x, a, b)
	})
}

func isAtomic(x api.Exec) bool {
	for at, e := range x.Evs {
		for between := range x.Evs {
			if e.Kind == api.EWon && isCO(x, x.RF[at], between) && isCO(x, between, at) {
				return false
			}
		}
	}
	return true
}

func isConsistent(m int, x api.Exec) bool {
	return m >= 1 && m <= 3 && isUniproc(x) && isAtomic(x) && !hasRing(len(x.Evs), func(a, b int) bool {
		return isKept(m, x, a, b) || isRF(x, a, b) && (x.Evs[a].T != x.Evs[b].T || x.Evs[a].T == -1) || isCO(x, a, b) || isFR(x, a, b)
	})
}

// pairs is all pairs of n numbers of which is holds, as text.
func pairs(n int, is func(a, b int) bool) string {
	var list [][2]int
	for a := range n {
		for b := range n {
			if is(a, b) {
				list = append(list, [2]int{a, b})
			}
		}
	}
	return textOf(list)
}

func textOf(list [][2]int) string {
	var texts []string
	for _, pair := range list {
		texts = append(texts, strconv.Itoa(pair[0])+" "+strconv.Itoa(pair[1]))
	}
	return strings.Join(texts, ", ")
}

func holdRel(t *testing.T, name string, x api.Exec, got rel.Rel, want string) {
	t.Helper()
	if text := textOf(got.Pairs()); text != want || got.N() != len(x.Evs) {
		t.Errorf("%s of %s:\n%s over %d, want\n%s over %d", name, exec.Text(x), text, got.N(), want, len(x.Evs))
	}
}

// known is executions, each Ok for its program, with their relations as they
// stand on paper, and what the models say of them.
type known struct {
	name, body      string
	x               api.Exec
	po, rf, co, fr  string
	kept            [3]string
	uniproc, atomic bool
	lets            [3]bool
}

func knowns() []known {
	evs := func(lists ...[]api.Ev) []api.Ev { return slices.Concat(lists...) }
	yes, no := [3]bool{true, true, true}, [3]bool{}
	same := func(s string) [3]string { return [3]string{s, s, s} }
	return []known{
		{"nothing at all", "thread { r0 = 1 ; } thread { }", api.Exec{}, "", "", "", "", same(""), true, true, yes},
		{"the beginning alone", "init { x = 1 ; y = 2 ; } thread { }",
			api.Exec{Evs: begins(1, 2), RF: []int{-1, -1}, CO: [][]int{{0}, {1}}}, "", "", "", "", same(""), true, true, yes},
		{"one fence", "thread { } thread { fence ; }",
			api.Exec{Evs: row(1, fences()), RF: []int{-1}}, "", "", "", "", same(""), true, true, yes},
		{"a read of the beginning", "thread { r0 = load x ; }",
			api.Exec{Evs: evs(begins(0), row(0, reads(0, 0))), RF: []int{-1, 0}, CO: [][]int{{0}}}, "", "0 1", "", "", same(""), true, true, yes},
		{"one write", "thread { store x 1 ; }",
			api.Exec{Evs: evs(begins(0), row(0, writes(0, 1))), RF: []int{-1, -1}, CO: [][]int{{0, 1}}}, "", "", "0 1", "", same(""), true, true, yes},
		{"a read of its own thread", "thread { store x 1 ; r0 = load x ; }",
			api.Exec{Evs: evs(begins(0), row(0, writes(0, 1), reads(0, 1))), RF: []int{-1, -1, 1}, CO: [][]int{{0, 1}}},
			"1 2", "1 2", "0 1", "", [3]string{"1 2", "", ""}, true, true, yes},
		{"a read of the beginning behind a write", "thread { store x 1 ; r0 = load x ; }",
			api.Exec{Evs: evs(begins(0), row(0, writes(0, 1), reads(0, 0))), RF: []int{-1, -1, 0}, CO: [][]int{{0, 1}}},
			"1 2", "0 2", "0 1", "2 1", [3]string{"1 2", "", ""}, false, true, no},
		{"a read of the beginning ahead of a write", "thread { r0 = load x ; store x 1 ; }",
			api.Exec{Evs: evs(begins(0), row(0, reads(0, 0), writes(0, 1))), RF: []int{-1, 0, -1}, CO: [][]int{{0, 2}}},
			"1 2", "0 1", "0 2", "1 2", same("1 2"), true, true, yes},
		{"writes as they were done", "thread { store x 1 ; store x 2 ; store x 3 ; }",
			api.Exec{Evs: evs(begins(0), row(0, writes(0, 1), writes(0, 2), writes(0, 3))), RF: []int{-1, -1, -1, -1}, CO: [][]int{{0, 1, 2, 3}}},
			"1 2, 1 3, 2 3", "", "0 1, 0 2, 0 3, 1 2, 1 3, 2 3", "", same("1 2, 1 3, 2 3"), true, true, yes},
		{"writes the other way round", "thread { store x 1 ; store x 2 ; }",
			api.Exec{Evs: evs(begins(0), row(0, writes(0, 1), writes(0, 2))), RF: []int{-1, -1, -1}, CO: [][]int{{0, 2, 1}}},
			"1 2", "", "0 1, 0 2, 2 1", "", same("1 2"), false, true, no},
		{"a compare right behind what it reads", "thread { store x 1 ; r0 = cas x 1 2 ; }",
			api.Exec{Evs: evs(begins(0), row(0, writes(0, 1), won(0, 1, 2))), RF: []int{-1, -1, 1}, CO: [][]int{{0, 1, 2}}},
			"1 2", "1 2", "0 1, 0 2, 1 2", "", same("1 2"), true, true, yes},
		{"a compare with one between", "thread { store x 1 ; } thread { r0 = cas x 0 2 ; }",
			api.Exec{Evs: evs(begins(0), row(0, writes(0, 1)), row(1, won(0, 0, 2))), RF: []int{-1, -1, 0}, CO: [][]int{{0, 1, 2}}},
			"", "0 2", "0 1, 0 2, 1 2", "2 1", same(""), false, false, no},
		{"a compare with one behind", "thread { store x 1 ; } thread { r0 = cas x 0 2 ; }",
			api.Exec{Evs: evs(begins(0), row(0, writes(0, 1)), row(1, won(0, 0, 2))), RF: []int{-1, -1, 0}, CO: [][]int{{0, 2, 1}}},
			"", "0 2", "0 1, 0 2, 2 1", "2 1", same(""), true, true, yes},
		{"a compare ahead of what it reads", "thread { store x 1 ; } thread { r0 = cas x 1 2 ; }",
			api.Exec{Evs: evs(begins(0), row(0, writes(0, 1)), row(1, won(0, 1, 2))), RF: []int{-1, -1, 1}, CO: [][]int{{0, 2, 1}}},
			"", "1 2", "0 1, 0 2, 2 1", "", same(""), false, true, no},
		{"a compare that does not find its number", "thread { store x 1 ; } thread { r0 = cas x 5 2 ; r1 = cas x 5 2 ; }",
			api.Exec{Evs: evs(begins(0), row(0, writes(0, 1)), row(1, lost(0, 0), lost(0, 1))), RF: []int{-1, -1, 0, 1}, CO: [][]int{{0, 1}}},
			"2 3", "0 2, 1 3", "0 1", "2 1", same("2 3"), true, true, yes},
		{"two compares of one write", "thread { r0 = cas x 0 1 ; } thread { r0 = cas x 0 2 ; }",
			api.Exec{Evs: evs(begins(0), row(0, won(0, 0, 1)), row(1, won(0, 0, 2))), RF: []int{-1, 0, 0}, CO: [][]int{{0, 1, 2}}},
			"", "0 1, 0 2", "0 1, 0 2, 1 2", "1 2, 2 1", same(""), false, false, no},
		{"each has not seen the other's store", "thread { store x 1 ; r0 = load y ; } thread { store y 1 ; r0 = load x ; }",
			api.Exec{Evs: evs(begins(0, 0), row(0, writes(0, 1), reads(1, 0)), row(1, writes(1, 1), reads(0, 0))), RF: []int{-1, -1, -1, 1, -1, 0}, CO: [][]int{{0, 2}, {1, 4}}},
			"2 3, 4 5", "0 5, 1 3", "0 2, 1 4", "3 4, 5 2", [3]string{"2 3, 4 5", "", ""}, true, true, [3]bool{false, true, true}},
		{"the same with fences", "thread { store x 1 ; fence ; r0 = load y ; } thread { store y 1 ; fence ; r0 = load x ; }",
			api.Exec{Evs: evs(begins(0, 0), row(0, writes(0, 1), fences(), reads(1, 0)), row(1, writes(1, 1), fences(), reads(0, 0))), RF: []int{-1, -1, -1, -1, 1, -1, -1, 0}, CO: [][]int{{0, 2}, {1, 5}}},
			"2 3, 2 4, 3 4, 5 6, 5 7, 6 7", "0 7, 1 4", "0 2, 1 5", "4 5, 7 2", same("2 3, 2 4, 3 4, 5 6, 5 7, 6 7"), true, true, no},
		{"the later store is seen ahead", "thread { store x 1 ; store y 1 ; } thread { r0 = load y ; r1 = load x ; }",
			api.Exec{Evs: evs(begins(0, 0), row(0, writes(0, 1), writes(1, 1)), row(1, reads(1, 1), reads(0, 0))), RF: []int{-1, -1, -1, -1, 3, 0}, CO: [][]int{{0, 2}, {1, 3}}},
			"2 3, 4 5", "0 5, 3 4", "0 2, 1 3", "5 2", [3]string{"2 3, 4 5", "2 3, 4 5", "4 5"}, true, true, [3]bool{false, false, true}},
		{"a store is seen by its own thread first", "thread { store x 1 ; r0 = load x ; r1 = load y ; } thread { store y 1 ; store x 2 ; }",
			api.Exec{Evs: evs(begins(0, 0), row(0, writes(0, 1), reads(0, 1), reads(1, 0)), row(1, writes(1, 1), writes(0, 2))), RF: []int{-1, -1, -1, 2, 1, -1, -1}, CO: [][]int{{0, 6, 2}, {1, 5}}},
			"2 3, 2 4, 3 4, 5 6", "1 4, 2 3", "0 2, 0 6, 1 5, 6 2", "4 5", [3]string{"2 3, 2 4, 3 4, 5 6", "3 4, 5 6", "3 4"}, true, true, [3]bool{false, true, true}},
		{"four threads, two of which see two stores in two orders", "thread { store x 1 ; } thread { store y 1 ; } thread { r0 = load x ; r1 = load y ; } thread { r0 = load y ; r1 = load x ; }",
			api.Exec{Evs: evs(begins(0, 0), row(0, writes(0, 1)), row(1, writes(1, 1)), row(2, reads(0, 1), reads(1, 0)), row(3, reads(1, 1), reads(0, 0))), RF: []int{-1, -1, -1, -1, 2, 1, 3, 0}, CO: [][]int{{0, 2}, {1, 3}}},
			"4 5, 6 7", "0 7, 1 5, 2 4, 3 6", "0 2, 1 3", "5 3, 7 2", same("4 5, 6 7"), true, true, no},
		{"three threads, a compare and two that read it", "init { x = 3 ; } thread { r0 = cas x 3 4 ; fence ; store x 5 ; } thread { r0 = load x ; } thread { r0 = cas x 3 9 ; }",
			api.Exec{Evs: evs(begins(3), row(0, won(0, 3, 4), fences(), writes(0, 5)), row(1, reads(0, 4)), row(2, lost(0, 4))), RF: []int{-1, 0, -1, -1, 1, 1}, CO: [][]int{{0, 1, 3}}},
			"1 2, 1 3, 2 3", "0 1, 1 4, 1 5", "0 1, 0 3, 1 3", "1 3, 4 3, 5 3", same("1 2, 1 3, 2 3"), true, true, yes},
	}
}

func Test12_1Rels(t *testing.T) {
	for _, k := range knowns() {
		if !exec.Ok(compile(t, k.body), k.x) {
			t.Errorf("%s: not Ok", k.name)
		}
		po, rf, co, fr := Rels(k.x)
		holdRel(t, k.name+": po", k.x, po, k.po)
		holdRel(t, k.name+": rf", k.x, rf, k.rf)
		holdRel(t, k.name+": co", k.x, co, k.co)
		holdRel(t, k.name+": fr", k.x, fr, k.fr)
	}
}

func Test12_1UniprocAndAtomic(t *testing.T) {
	for _, k := range knowns() {
		if got := Uniproc(k.x); got != k.uniproc {
			t.Errorf("%s: Uniproc %v", k.name, got)
		}
		if got := Atomic(k.x); got != k.atomic {
			t.Errorf("%s: Atomic %v", k.name, got)
		}
	}
}

func Test12_2KeptAndConsistent(t *testing.T) {
	for _, k := range knowns() {
		for _, m := range models {
			holdRel(t, k.name+": Kept "+strconv.Itoa(m), k.x, Kept(m, k.x), k.kept[m-1])
			if got := Consistent(m, k.x); got != k.lets[m-1] {
				t.Errorf("%s: Consistent %d %v", k.name, m, got)
			}
		}
	}
}

// Each shape in which one location alone can go wrong, and next to it one in
// which it does not.
func Test12_1UniprocOfOneLocation(t *testing.T) {
	for _, x := range []struct {
		name, body string
		rf         []int
		co         []int
		want       bool
	}{
		{"reads see writes in one order", "thread { store x 1 ; } thread { r0 = load x ; r1 = load x ; }", []int{-1, -1, 0, 1}, []int{0, 1}, true},
		{"a read forgets", "thread { store x 1 ; } thread { r0 = load x ; r1 = load x ; }", []int{-1, -1, 1, 0}, []int{0, 1}, false},
		{"a compare that lost forgets", "thread { store x 1 ; } thread { r0 = load x ; r1 = cas x 9 9 ; }", []int{-1, -1, 1, 0}, []int{0, 1}, false},
		{"a read behind a compare that lost forgets", "thread { store x 1 ; } thread { r0 = cas x 9 9 ; r1 = load x ; }", []int{-1, -1, 1, 0}, []int{0, 1}, false},
		{"a read forgets across a fence", "thread { store x 1 ; } thread { r0 = load x ; fence ; r1 = load x ; }", []int{-1, -1, 1, -1, 0}, []int{0, 1}, false},
		{"a read forgets its own compare", "thread { r0 = cas x 0 1 ; r1 = load x ; }", []int{-1, 0, 0}, []int{0, 1}, false},
		{"a read of an older write of its own", "thread { store x 1 ; store x 2 ; r0 = load x ; }", []int{-1, -1, -1, 1}, []int{0, 1, 2}, false},
		{"a read of another's write behind its own", "thread { store x 1 ; r0 = load x ; } thread { store x 2 ; }", []int{-1, -1, 3, -1}, []int{0, 1, 3}, true},
		{"a read of another's write ahead of its own", "thread { store x 1 ; r0 = load x ; } thread { store x 2 ; }", []int{-1, -1, 3, -1}, []int{0, 3, 1}, false},
		{"a write behind what was read", "thread { r0 = load x ; store x 1 ; } thread { store x 2 ; }", []int{-1, 3, -1, -1}, []int{0, 3, 2}, true},
		{"a write ahead of what was read", "thread { r0 = load x ; store x 1 ; } thread { store x 2 ; }", []int{-1, 3, -1, -1}, []int{0, 2, 3}, false},
		{"two threads read two writes in two orders", "thread { store x 1 ; } thread { store x 2 ; } thread { r0 = load x ; r1 = load x ; } thread { r0 = load x ; r1 = load x ; }",
			[]int{-1, -1, -1, 1, 2, 2, 1}, []int{0, 1, 2}, false},
		{"two threads read two writes in one order", "thread { store x 1 ; } thread { store x 2 ; } thread { r0 = load x ; r1 = load x ; } thread { r0 = load x ; r1 = load x ; }",
			[]int{-1, -1, -1, 1, 2, 1, 2}, []int{0, 1, 2}, true},
	} {
		p := compile(t, x.body)
		all, _ := exec.All(p, 1000)
		at := slices.IndexFunc(all, func(y api.Exec) bool { return slices.Equal(y.RF, x.rf) && slices.Equal(y.CO[0], x.co) })
		if at < 0 {
			t.Fatal(x.name)
		}
		if got := Uniproc(all[at]); got != x.want {
			t.Errorf("%s: %v", x.name, got)
		}
		for _, m := range models {
			if got := Consistent(m, all[at]); got != x.want {
				t.Errorf("%s: Consistent %d %v", x.name, m, got)
			}
		}
	}
}

// What Uniproc asks of one location it does not ask of two.
func Test12_1UniprocOfTwoLocations(t *testing.T) {
	for _, body := range []string{
		"thread { store x 1 ; r0 = load y ; } thread { store y 1 ; r0 = load x ; }",
		"thread { store x 1 ; store y 1 ; } thread { r0 = load y ; r1 = load x ; }",
		"thread { store x 1 ; store y 2 ; } thread { store y 1 ; store x 2 ; }",
		"thread { r0 = cas x 0 1 ; r1 = cas y 9 9 ; } thread { r0 = cas y 0 1 ; r1 = cas x 9 9 ; }",
	} {
		all, _ := exec.All(compile(t, body), 1000)
		for _, x := range all {
			if !Uniproc(x) {
				t.Errorf("%s: %s", body, exec.Text(x))
			}
		}
	}
}

// A compare among other writes, at each place of CO.
func Test12_1AtomicAtEachPlace(t *testing.T) {
	p := compile(t, "thread { store x 7 ; } thread { store x 8 ; } thread { store x 9 ; } thread { r0 = cas x 8 5 ; }")
	all, _ := exec.All(p, 1000)
	count := map[[2]bool]int{}
	for _, x := range all {
		if x.Evs[4].Kind != api.EWon {
			// One that did not find its number asks for nothing.
			if !Atomic(x) {
				t.Error(exec.Text(x))
			}
			continue
		}
		from, at := slices.Index(x.CO[0], 2), slices.Index(x.CO[0], 4)
		if got := Atomic(x); got != (at-from <= 1) {
			t.Errorf("%s: %v", exec.Text(x), got)
		}
		if got := Consistent(api.MSC, x); got != (at-from == 1) {
			t.Errorf("%s: Consistent %v", exec.Text(x), got)
		}
		count[[2]bool{at < from, Atomic(x)}]++
	}
	// Of 24 orders the compare stands behind in 12, right behind in 6.
	if count[[2]bool{true, true}] != 12 || count[[2]bool{false, true}] != 6 || count[[2]bool{false, false}] != 6 {
		t.Error(count)
	}
}

// All candidates of any programs, by the second reckoning.
func Test12_1OfAny(t *testing.T) {
	r := rand.New(rand.NewSource(121))
	count := map[[2]bool]int{}
	for range 1500 {
		p := ready(t, anyTest(r, 4, 5))
		all, _ := exec.All(p, 300)
		for range min(len(all), 12) {
			x := all[r.Intn(len(all))]
			n := len(x.Evs)
			po, rf, co, fr := Rels(x)
			holdRel(t, "po", x, po, pairs(n, func(a, b int) bool { return isPO(x, a, b) }))
			holdRel(t, "rf", x, rf, pairs(n, func(a, b int) bool { return isRF(x, a, b) }))
			holdRel(t, "co", x, co, pairs(n, func(a, b int) bool { return isCO(x, a, b) }))
			holdRel(t, "fr", x, fr, pairs(n, func(a, b int) bool { return isFR(x, a, b) }))
			if got, want := [2]bool{Uniproc(x), Atomic(x)}, [2]bool{isUniproc(x), isAtomic(x)}; got != want {
				t.Fatalf("%s: %v, want %v", exec.Text(x), got, want)
			}
			count[[2]bool{isUniproc(x), isAtomic(x)}]++
		}
	}
	// One that is Uniproc is Atomic: who stands between is fr's and co's.
	if count[[2]bool{true, true}] < 500 || count[[2]bool{false, true}] < 500 || count[[2]bool{false, false}] < 200 {
		t.Error(count)
	}
}

func Test12_2OfAny(t *testing.T) {
	r := rand.New(rand.NewSource(122))
	count := map[[3]bool]int{}
	for round := range 1500 {
		p := ready(t, anyTest(r, 4, 5))
		if round%2 == 0 {
			p = ready(t, weakTest(r))
		}
		all, _ := exec.All(p, 300)
		for range min(len(all), 20) {
			x := all[r.Intn(len(all))]
			var lets [3]bool
			for _, m := range models {
				holdRel(t, "Kept "+strconv.Itoa(m), x, Kept(m, x), pairs(len(x.Evs), func(a, b int) bool { return isKept(m, x, a, b) }))
				lets[m-1] = isConsistent(m, x)
				if got := Consistent(m, x); got != lets[m-1] {
					t.Fatalf("%s, model %d: %v", exec.Text(x), m, got)
				}
			}
			count[lets]++
		}
	}
	for _, lets := range [][3]bool{{true, true, true}, {}, {false, true, true}, {false, false, true}} {
		if count[lets] < 50 {
			t.Error(lets, count)
		}
	}
	if len(count) != 4 {
		t.Error("a stronger model lets more be:", count)
	}
}

// Two events with nothing, with something that does not fence, and with each
// that does between them, of one location and of two.
func Test12_2KeptPairByPair(t *testing.T) {
	kinds := []string{"store x 1 ;", "r0 = load x ;", "fence ;", "r0 = cas x 0 5 ;", "r0 = cas x 9 9 ;"}
	between := map[string]bool{"": false, "r1 = 3 ;": false, "store z 1 ;": false, "r1 = load z ;": false, "store x 3 ;": false, "r1 = load x ;": false, "skip 1 if 0 == 0 ; fence ;": false,
		"fence ;": true, "r1 = cas z 0 5 ;": true, "r1 = cas z 9 9 ;": true, "r1 = load z ; fence ;": true, "fence ; store z 1 ;": true}
	for a, first := range kinds {
		for b, second := range kinds {
			for _, loc := range []string{"x", "y"} {
				for middle, fenced := range between {
					// What is kept hangs on nothing that other threads do.
					body := "init { x = 0 ; y = 0 ; z = 0 ; } thread { store x 4 ; } thread { " + first + middle + strings.ReplaceAll(second, "x", loc) + " }"
					all, _ := exec.All(compile(t, body), 1000)
					if len(all) == 0 {
						t.Fatal(body)
					}
					for _, x := range all {
						from, to := 4, len(x.Evs)-1
						late := a == 0 && b == 1 && !fenced
						apart := a == 0 && b == 0 && loc == "y" && !fenced
						for m, want := range map[int]bool{1: true, 2: !late, 3: !late && !apart} {
							if got := Kept(m, x).Has(from, to); got != want {
								t.Fatalf("%s, model %d: %s: %v", body, m, exec.Text(x), got)
							}
						}
					}
				}
			}
		}
	}
}

// A fence of another thread, or ahead of both, or behind both, is none between.
func Test12_2KeptFencesElsewhere(t *testing.T) {
	for body, pair := range map[string][2]int{
		"thread { fence ; store x 1 ; r0 = load y ; } thread { fence ; }":              {3, 4},
		"thread { store x 1 ; r0 = load y ; fence ; } thread { fence ; }":              {2, 3},
		"thread { r0 = cas x 0 1 ; store x 1 ; r0 = load y ; r1 = cas x 9 9 ; }":       {3, 4},
		"thread { fence ; fence ; } thread { store x 1 ; r0 = load y ; }":              {4, 5},
		"thread { store x 1 ; store x 1 ; r0 = load y ; } thread { r0 = cas y 0 0 ; }": {2, 4},
	} {
		all, _ := exec.All(compile(t, body), 1000)
		for _, x := range all {
			if !Kept(api.MSC, x).Has(pair[0], pair[1]) || Kept(api.MTSO, x).Has(pair[0], pair[1]) || Kept(api.MPSO, x).Has(pair[0], pair[1]) {
				t.Errorf("%s: %v", body, pair)
			}
		}
	}
}

func Test12_2NoModel(t *testing.T) {
	for _, k := range knowns() {
		for _, m := range strangers {
			if got := Kept(m, k.x); got != rel.New(0) {
				t.Errorf("%s: Kept %d: %v over %d", k.name, m, got.Pairs(), got.N())
			}
			if Consistent(m, k.x) {
				t.Errorf("%s: Consistent %d", k.name, m)
			}
		}
	}
}

// What tests are known for, by model: all that is read, thread by thread, and
// what each location ends with.
func Test12_2WhatTestsAreKnownFor(t *testing.T) {
	for _, x := range []struct {
		name, body string
		read, ends []int64
		lets       [3]bool
	}{
		{"SB", "thread { store x 1 ; r0 = load y ; } thread { store y 1 ; r0 = load x ; }", []int64{0, 0}, []int64{1, 1}, [3]bool{false, true, true}},
		{"SB, one fence", "thread { store x 1 ; fence ; r0 = load y ; } thread { store y 1 ; r0 = load x ; }", []int64{0, 0}, []int64{1, 1}, [3]bool{false, true, true}},
		{"SB, compares that find", "thread { store x 1 ; r1 = cas z 0 0 ; r0 = load y ; } thread { store y 1 ; r1 = cas z 0 0 ; r0 = load x ; }", []int64{0, 0, 0, 0}, []int64{1, 1, 0}, [3]bool{}},
		{"SB, compares that do not find", "thread { store x 1 ; r1 = cas w 7 7 ; r0 = load y ; } thread { store y 1 ; r1 = cas z 7 7 ; r0 = load x ; }", []int64{0, 0, 0, 0}, []int64{0, 1, 1, 0}, [3]bool{}},
		{"SB, compares that read", "thread { store x 1 ; r0 = cas y 7 7 ; } thread { store y 1 ; r0 = cas x 7 7 ; }", []int64{0, 0}, []int64{1, 1}, [3]bool{}},
		{"SB, compares that write", "thread { r1 = cas x 0 1 ; r0 = load y ; } thread { r1 = cas y 0 1 ; r0 = load x ; }", []int64{0, 0, 0, 0}, []int64{1, 1}, [3]bool{}},
		{"SB, each reads its own first", "thread { store x 1 ; r1 = load x ; r0 = load y ; } thread { store y 1 ; r1 = load y ; r0 = load x ; }", []int64{1, 0, 1, 0}, []int64{1, 1}, [3]bool{false, true, true}},
		{"SB of three", "thread { store x 1 ; r0 = load y ; } thread { store y 1 ; r0 = load z ; } thread { store z 1 ; r0 = load x ; }", []int64{0, 0, 0}, []int64{1, 1, 1}, [3]bool{false, true, true}},
		{"SB of four", "thread { store w 1 ; r0 = load x ; } thread { store x 1 ; r0 = load y ; } thread { store y 1 ; r0 = load z ; } thread { store z 1 ; r0 = load w ; }", []int64{0, 0, 0, 0}, []int64{1, 1, 1, 1}, [3]bool{false, true, true}},
		{"MP", "thread { store x 1 ; store y 1 ; } thread { r0 = load y ; r1 = load x ; }", []int64{1, 0}, []int64{1, 1}, [3]bool{false, false, true}},
		{"MP, a fence between the stores", "thread { store x 1 ; fence ; store y 1 ; } thread { r0 = load y ; r1 = load x ; }", []int64{1, 0}, []int64{1, 1}, [3]bool{}},
		{"MP, a fence between the loads", "thread { store x 1 ; store y 1 ; } thread { r0 = load y ; fence ; r1 = load x ; }", []int64{1, 0}, []int64{1, 1}, [3]bool{false, false, true}},
		{"MP, a load between the stores", "thread { store x 1 ; r0 = load z ; store y 1 ; } thread { r0 = load y ; r1 = load x ; }", []int64{0, 1, 0}, []int64{1, 1, 0}, [3]bool{false, false, true}},
		{"MP, the second store is a compare", "thread { store x 1 ; r0 = cas y 0 1 ; } thread { r0 = load y ; r1 = load x ; }", []int64{0, 1, 0}, []int64{1, 1}, [3]bool{}},
		{"MP, the first store is a compare", "thread { r0 = cas x 0 1 ; store y 1 ; } thread { r0 = load y ; r1 = load x ; }", []int64{0, 1, 0}, []int64{1, 1}, [3]bool{}},
		{"LB", "thread { r0 = load x ; store y 1 ; } thread { r0 = load y ; store x 1 ; }", []int64{0, 1}, []int64{1, 1}, [3]bool{true, true, true}},
		{"S", "thread { store x 2 ; store y 1 ; } thread { r0 = load y ; store x 1 ; }", []int64{1}, []int64{2, 1}, [3]bool{false, false, true}},
		{"R", "thread { store x 1 ; store y 1 ; } thread { store y 2 ; r0 = load x ; }", []int64{0}, []int64{1, 2}, [3]bool{false, true, true}},
		{"2+2W", "thread { store x 1 ; store y 2 ; } thread { store y 1 ; store x 2 ; }", nil, []int64{1, 1}, [3]bool{false, false, true}},
		{"2+2W, one fence", "thread { store x 1 ; fence ; store y 2 ; } thread { store y 1 ; store x 2 ; }", nil, []int64{1, 1}, [3]bool{false, false, true}},
		{"2+2W, fences", "thread { store x 1 ; fence ; store y 2 ; } thread { store y 1 ; fence ; store x 2 ; }", nil, []int64{1, 1}, [3]bool{}},
		{"IRIW", "thread { store x 1 ; } thread { store y 1 ; } thread { r0 = load x ; r1 = load y ; } thread { r0 = load y ; r1 = load x ; }", []int64{1, 0, 1, 0}, []int64{1, 1}, [3]bool{}},
		{"WRC", "thread { store x 1 ; } thread { r0 = load x ; store y 1 ; } thread { r0 = load y ; r1 = load x ; }", []int64{1, 1, 0}, []int64{1, 1}, [3]bool{}},
		{"RWC", "thread { store x 1 ; } thread { r0 = load x ; r1 = load y ; } thread { store y 1 ; r0 = load x ; }", []int64{1, 0, 0}, []int64{1, 1}, [3]bool{false, true, true}},
		{"RWC, a fence", "thread { store x 1 ; } thread { r0 = load x ; r1 = load y ; } thread { store y 1 ; fence ; r0 = load x ; }", []int64{1, 0, 0}, []int64{1, 1}, [3]bool{}},
		{"n6", "thread { store x 1 ; r0 = load x ; r1 = load y ; } thread { store y 1 ; store x 2 ; }", []int64{1, 0}, []int64{1, 1}, [3]bool{false, true, true}},
		{"n5", "thread { store x 1 ; r0 = load x ; } thread { store x 2 ; r0 = load x ; }", []int64{2, 1}, []int64{1}, [3]bool{}},
		{"two that add", "thread { r0 = load x ; r0 = r0 + 1 ; store x r0 ; } thread { r0 = load x ; r0 = r0 + 1 ; store x r0 ; }", []int64{0, 0}, []int64{1}, [3]bool{true, true, true}},
		{"two that add by compares", "thread { r0 = cas x 0 1 ; } thread { r0 = cas x 0 1 ; }", []int64{0, 0}, []int64{1}, [3]bool{}},
	} {
		for _, m := range models {
			all, ok := All(compile(t, x.body), m, 100_000)
			found := slices.ContainsFunc(all, func(y api.Exec) bool { return isSeen(y, x.read, x.ends) })
			if !ok || found != x.lets[m-1] {
				t.Errorf("%s, model %d: %v %v", x.name, m, found, ok)
			}
		}
	}
}

// isSeen tells if x reads and ends so.
func isSeen(x api.Exec, read, ends []int64) bool {
	var values, last []int64
	for _, e := range x.Evs {
		if e.Kind == 1 || e.Kind >= 4 {
			values = append(values, e.R)
		}
	}
	for _, row := range x.CO {
		last = append(last, x.Evs[row[len(row)-1]].W)
	}
	return slices.Equal(values, read) && slices.Equal(last, ends)
}
