package exec

import (
	"fmt"
	"math"
	"math/rand"
	"reflect"
	"slices"
	"strings"
	"testing"

	"jacquard/api"
	"jacquard/num"
	"jacquard/print"
	"jacquard/prog"
	"jacquard/well"
)

const most, least = math.MaxInt64, math.MinInt64

// odd are numbers at which places and fields may go wrong: some of them are 0, 1
// or -1 when they are cut to few bits.
var odd = []int{math.MinInt, math.MinInt + 1, -1<<32 - 1, -1 << 32, -256, -65, -64, -2, -1, 0, 1, 2, 3, 4, 5, 6, 7, 63, 64, 65, 255, 256, 1 << 16, 1 << 32, 1<<32 + 1, math.MaxInt - 1, math.MaxInt}

func number(n int64) api.Operand { return api.Operand{Reg: -1, Value: n} }

func register(r int) api.Operand { return api.Operand{Reg: r} }

func reads(loc int, r int64) api.Ev { return api.Ev{Kind: 1, Loc: loc, R: r} }

func writes(loc int, w int64) api.Ev { return api.Ev{Kind: 2, Loc: loc, W: w} }

func fences() api.Ev { return api.Ev{Kind: 3} }

func won(loc int, r, w int64) api.Ev { return api.Ev{Kind: 4, Loc: loc, R: r, W: w} }

func lost(loc int, r int64) api.Ev { return api.Ev{Kind: 5, Loc: loc, R: r} }

// begins is the events at the beginning, if places 0, 1 and so on begin with w.
func begins(w ...int64) []api.Ev {
	var evs []api.Ev
	for loc, n := range w {
		evs = append(evs, api.Ev{T: -1, I: loc, Kind: 2, Loc: loc, W: n})
	}
	return evs
}

// row is the events as those of thread k, one after the other.
func row(k int, evs ...api.Ev) []api.Ev {
	list := slices.Clone(evs)
	for i := range list {
		list[i].T, list[i].I = k, i
	}
	return list
}

func ready(t *testing.T, test api.Test) api.Prog {
	t.Helper()
	p, code := prog.Compile(test)
	if code != api.OK {
		t.Fatal(code, print.Test(test))
	}
	return p
}

func compile(t *testing.T, body string) api.Prog {
	t.Helper()
	test, err := well.Read("test a { " + body + " }")
	if err.Code != api.OK {
		t.Fatalf("%q: %v", body, err)
	}
	return ready(t, test)
}

// copyOf shares no memory with x.
func copyOf(x api.Exec) api.Exec {
	y := api.Exec{Evs: slices.Clone(x.Evs), RF: slices.Clone(x.RF)}
	for _, row := range x.CO {
		y.CO = append(y.CO, slices.Clone(row))
	}
	return y
}

func holdOk(t *testing.T, p api.Prog, x api.Exec, want bool) {
	t.Helper()
	if got := Ok(p, x); got != want {
		t.Fatalf("%v: %v is Ok: %v, want %v", p, x, got, want)
	}
}

func isRead(e api.Ev) bool { return e.Kind == 1 || e.Kind == 4 || e.Kind == 5 }

func isWrite(e api.Ev) bool { return e.Kind == 2 || e.Kind == 4 }

// told is a second reckoning of a thread: one instruction after the other, none
// of which is looked at twice. next is the location that it would read when
// there are no more values, -1 at its end.
func told(list []api.Ins, k int, values []int64) (evs []api.Ev, next int) {
	var regs [4]int64
	of := func(o api.Operand) int64 {
		if o.Reg == -1 {
			return o.Value
		}
		return regs[o.Reg]
	}
	out := 0
	for _, i := range list {
		if out > 0 {
			out--
			continue
		}
		var e api.Ev
		switch i.Kind {
		case api.ISet:
			n, ok := num.Do(i.Op, of(i.A), of(i.B))
			if !ok {
				n = of(i.A)
			}
			regs[i.Reg] = n
			continue
		case api.ISkip:
			if of(i.A) == of(i.B) {
				out = i.N
			}
			continue
		case api.IStore:
			e = writes(i.Loc, of(i.A))
		case api.IFence:
			e = fences()
		default:
			if len(values) == 0 {
				return evs, i.Loc
			}
			e = reads(i.Loc, values[0])
			if i.Kind == api.ICas {
				e = lost(i.Loc, values[0])
				if values[0] == of(i.A) {
					e = won(i.Loc, values[0], of(i.B))
				}
			}
			regs[i.Reg] = values[0]
			values = values[1:]
		}
		e.T, e.I = k, len(evs)
		evs = append(evs, e)
	}
	return evs, -1
}

// okay is a second reckoning of Ok.
func okay(p api.Prog, x api.Exec) bool {
	evs := begins(p.Init...)
	for k, list := range p.Threads {
		var values []int64
		for _, e := range x.Evs {
			if e.T == k && isRead(e) {
				values = append(values, e.R)
			}
		}
		does, next := told(list, k, values)
		if next != -1 {
			return false
		}
		evs = append(evs, does...)
	}
	return slices.Equal(evs, x.Evs) && sourcesOkay(x) && ordersOkay(p, x) && isGrounded(x)
}

func sourcesOkay(x api.Exec) bool {
	if len(x.RF) != len(x.Evs) {
		return false
	}
	for at, e := range x.Evs {
		could := []int{-1}
		if isRead(e) {
			could = nil
			for from, w := range x.Evs {
				if isWrite(w) && w.Loc == e.Loc && w.W == e.R && from != at {
					could = append(could, from)
				}
			}
		}
		if !slices.Contains(could, x.RF[at]) {
			return false
		}
	}
	return true
}

func ordersOkay(p api.Prog, x api.Exec) bool {
	if len(x.CO) != len(p.Locs) {
		return false
	}
	for loc, row := range x.CO {
		for at, e := range x.Evs {
			times := 0
			for _, place := range row {
				if place == at {
					times++
				}
			}
			if isWrite(e) && e.Loc == loc && times != 1 || !(isWrite(e) && e.Loc == loc) && times != 0 {
				return false
			}
		}
		for _, place := range row {
			if place < 0 || place >= len(x.Evs) {
				return false
			}
		}
		if len(row) == 0 || x.Evs[row[0]].T != -1 {
			return false
		}
	}
	return true
}

// isGrounded does one event after the other: all of its thread ahead of it must
// be done, and what it reads from. It asks nothing of PO and of Acyclic.
func isGrounded(x api.Exec) bool {
	done := make([]bool, len(x.Evs))
	may := func(at int) bool {
		for b, e := range x.Evs {
			if !done[b] && (e.T == -1 && x.Evs[at].T != -1 || e.T == x.Evs[at].T && e.T != -1 && e.I < x.Evs[at].I) {
				return false
			}
		}
		return x.RF[at] == -1 || done[x.RF[at]]
	}
	for range x.Evs {
		for at := range x.Evs {
			if !done[at] && may(at) {
				done[at] = true
			}
		}
	}
	return !slices.Contains(done, false)
}

// Each line is a program and candidates of it, those that are Ok first.
func Test11_1Ok(t *testing.T) {
	evs := func(lists ...[]api.Ev) []api.Ev { return slices.Concat(lists...) }
	for name, x := range map[string]struct {
		body    string
		ok, bad []api.Exec
	}{
		"no memory": {"thread { r0 = 1 ; } thread { }",
			[]api.Exec{{}, {Evs: []api.Ev{}, RF: []int{}, CO: [][]int{}}},
			[]api.Exec{{Evs: begins(0)}, {Evs: []api.Ev{{}}}, {RF: []int{-1}}, {RF: []int{0}}, {CO: [][]int{nil}}, {CO: [][]int{{0}}}, {Evs: row(0, fences()), RF: []int{-1}}, {Evs: row(1, fences()), RF: []int{-1}}}},
		"a location that nobody touches": {"init { x = 7 ; } thread { }",
			[]api.Exec{{Evs: begins(7), RF: []int{-1}, CO: [][]int{{0}}}},
			[]api.Exec{{}, {Evs: begins(0), RF: []int{-1}, CO: [][]int{{0}}}, {Evs: begins(7), RF: []int{0}, CO: [][]int{{0}}}, {Evs: begins(7), RF: []int{-1}, CO: [][]int{{}}}, {Evs: begins(7), RF: []int{-1}}, {Evs: begins(7, 7), RF: []int{-1, -1}, CO: [][]int{{0}, {1}}}}},
		"one load": {"thread { r0 = load x ; }",
			[]api.Exec{{Evs: evs(begins(0), row(0, reads(0, 0))), RF: []int{-1, 0}, CO: [][]int{{0}}}},
			[]api.Exec{
				{Evs: evs(begins(0), row(0, reads(0, 1))), RF: []int{-1, 0}, CO: [][]int{{0}}},
				{Evs: evs(begins(0), row(0, reads(0, 0))), RF: []int{-1, 1}, CO: [][]int{{0}}},
				{Evs: evs(begins(0), row(0, reads(0, 0))), RF: []int{-1, -1}, CO: [][]int{{0}}},
				{Evs: begins(0), RF: []int{-1}, CO: [][]int{{0}}},
			}},
		"one fence": {"thread { fence ; }",
			[]api.Exec{{Evs: row(0, fences()), RF: []int{-1}}},
			[]api.Exec{{Evs: row(0, fences()), RF: []int{0}}, {Evs: row(0, fences())}, {Evs: row(0, fences()), RF: []int{-1}, CO: [][]int{{0}}}, {Evs: row(0, fences()), RF: []int{-2}}}},
		"a load behind a store": {"thread { store x 1 ; r0 = load x ; }",
			[]api.Exec{
				{Evs: evs(begins(0), row(0, writes(0, 1), reads(0, 1))), RF: []int{-1, -1, 1}, CO: [][]int{{0, 1}}},
				{Evs: evs(begins(0), row(0, writes(0, 1), reads(0, 0))), RF: []int{-1, -1, 0}, CO: [][]int{{0, 1}}},
			},
			[]api.Exec{
				{Evs: evs(begins(0), row(0, writes(0, 1), reads(0, 1))), RF: []int{-1, -1, 0}, CO: [][]int{{0, 1}}},
				{Evs: evs(begins(0), row(0, writes(0, 1), reads(0, 0))), RF: []int{-1, -1, 1}, CO: [][]int{{0, 1}}},
				{Evs: evs(begins(0), row(0, writes(0, 1), reads(0, 1))), RF: []int{-1, -1, 1}, CO: [][]int{{1, 0}}},
				{Evs: evs(begins(0), row(0, writes(0, 1), reads(0, 1))), RF: []int{-1, -1, 1}, CO: [][]int{{0, 1, 2}}},
			}},
		"a load ahead of a store": {"thread { r0 = load x ; store x 0 ; }",
			[]api.Exec{{Evs: evs(begins(0), row(0, reads(0, 0), writes(0, 0))), RF: []int{-1, 0, -1}, CO: [][]int{{0, 2}}}},
			[]api.Exec{{Evs: evs(begins(0), row(0, reads(0, 0), writes(0, 0))), RF: []int{-1, 2, -1}, CO: [][]int{{0, 2}}}}},
		"two locations": {"thread { store y 4 ; r0 = load x ; }",
			[]api.Exec{{Evs: evs(begins(0, 0), row(0, writes(1, 4), reads(0, 0))), RF: []int{-1, -1, -1, 0}, CO: [][]int{{0}, {1, 2}}}},
			[]api.Exec{
				{Evs: evs(begins(0, 0), row(0, writes(1, 4), reads(0, 0))), RF: []int{-1, -1, -1, 1}, CO: [][]int{{0}, {1, 2}}},
				{Evs: evs(begins(0, 0), row(0, writes(1, 4), reads(0, 4))), RF: []int{-1, -1, -1, 2}, CO: [][]int{{0}, {1, 2}}},
				{Evs: evs(begins(0, 0), row(0, writes(1, 4), reads(0, 0))), RF: []int{-1, -1, -1, 0}, CO: [][]int{{0, 2}, {1}}},
				{Evs: evs(begins(0, 0), row(0, writes(1, 4), reads(0, 0))), RF: []int{-1, -1, -1, 0}, CO: [][]int{{1, 2}, {0}}},
				{Evs: evs(begins(0, 0), row(0, writes(1, 4), reads(0, 0))), RF: []int{-1, -1, -1, 0}, CO: [][]int{{0}, {1}}},
			}},
		"a cas": {"init { x = 3 ; } thread { r0 = cas x 3 5 ; r1 = cas x 3 5 ; }",
			[]api.Exec{
				{Evs: evs(begins(3), row(0, won(0, 3, 5), won(0, 3, 5))), RF: []int{-1, 0, 0}, CO: [][]int{{0, 1, 2}}},
				{Evs: evs(begins(3), row(0, won(0, 3, 5), won(0, 3, 5))), RF: []int{-1, 0, 0}, CO: [][]int{{0, 2, 1}}},
				{Evs: evs(begins(3), row(0, won(0, 3, 5), lost(0, 5))), RF: []int{-1, 0, 1}, CO: [][]int{{0, 1}}},
			},
			[]api.Exec{
				{Evs: evs(begins(3), row(0, won(0, 3, 5), lost(0, 5))), RF: []int{-1, 0, 1}, CO: [][]int{{0, 1, 2}}},
				{Evs: evs(begins(3), row(0, won(0, 3, 5), lost(0, 5))), RF: []int{-1, 0, 2}, CO: [][]int{{0, 1}}},
				{Evs: evs(begins(3), row(0, won(0, 3, 5), lost(0, 3))), RF: []int{-1, 0, 0}, CO: [][]int{{0, 1}}},
				{Evs: evs(begins(3), row(0, lost(0, 3), won(0, 3, 5))), RF: []int{-1, 0, 0}, CO: [][]int{{0, 2}}},
				{Evs: evs(begins(3), row(0, lost(0, 5), won(0, 3, 5))), RF: []int{-1, 2, 0}, CO: [][]int{{0, 2}}},
			}},
		"a cas that finds what it would write": {"init { x = 3 ; } thread { r0 = cas x 3 3 ; r1 = cas x 4 4 ; }",
			[]api.Exec{
				{Evs: evs(begins(3), row(0, won(0, 3, 3), lost(0, 3))), RF: []int{-1, 0, 1}, CO: [][]int{{0, 1}}},
				{Evs: evs(begins(3), row(0, won(0, 3, 3), lost(0, 3))), RF: []int{-1, 0, 0}, CO: [][]int{{0, 1}}},
			},
			[]api.Exec{
				{Evs: evs(begins(3), row(0, won(0, 3, 3), lost(0, 3))), RF: []int{-1, 1, 0}, CO: [][]int{{0, 1}}},
				{Evs: evs(begins(3), row(0, won(0, 3, 3), won(0, 4, 4))), RF: []int{-1, 0, 2}, CO: [][]int{{0, 1, 2}}},
				{Evs: evs(begins(3), row(0, won(0, 3, 3), won(0, 4, 4))), RF: []int{-1, 0, 0}, CO: [][]int{{0, 1, 2}}},
			}},
		"a skip": {"thread { r0 = load x ; skip 1 if r0 == 1 ; fence ; } thread { store x 1 ; }",
			[]api.Exec{
				{Evs: evs(begins(0), row(0, reads(0, 1)), row(1, writes(0, 1))), RF: []int{-1, 2, -1}, CO: [][]int{{0, 2}}},
				{Evs: evs(begins(0), row(0, reads(0, 0), fences()), row(1, writes(0, 1))), RF: []int{-1, 0, -1, -1}, CO: [][]int{{0, 3}}},
			},
			[]api.Exec{
				{Evs: evs(begins(0), row(0, reads(0, 1), fences()), row(1, writes(0, 1))), RF: []int{-1, 3, -1, -1}, CO: [][]int{{0, 3}}},
				{Evs: evs(begins(0), row(0, reads(0, 0)), row(1, writes(0, 1))), RF: []int{-1, 0, -1}, CO: [][]int{{0, 2}}},
				{Evs: evs(begins(0), row(1, writes(0, 1)), row(0, reads(0, 1))), RF: []int{-1, -1, 1}, CO: [][]int{{0, 1}}},
			}},
		"values at the ends": {"init { x = -9223372036854775808 ; } thread { r0 = load x ; } thread { store x 9223372036854775807 ; }",
			[]api.Exec{
				{Evs: evs(begins(least), row(0, reads(0, least)), row(1, writes(0, most))), RF: []int{-1, 0, -1}, CO: [][]int{{0, 2}}},
				{Evs: evs(begins(least), row(0, reads(0, most)), row(1, writes(0, most))), RF: []int{-1, 2, -1}, CO: [][]int{{0, 2}}},
			},
			[]api.Exec{{Evs: evs(begins(least), row(0, reads(0, least)), row(1, writes(0, most))), RF: []int{-1, 2, -1}, CO: [][]int{{0, 2}}}}},
	} {
		p := compile(t, x.body)
		for _, y := range x.ok {
			if !Ok(p, y) || !okay(p, y) {
				t.Errorf("%s: not Ok: %v", name, y)
			}
		}
		for _, y := range x.bad {
			if Ok(p, y) || okay(p, y) {
				t.Errorf("%s: Ok: %v", name, y)
			}
		}
	}
}

// programs are what the tests of candidates that are turned begin with.
var programs = []string{
	"thread { r0 = 1 ; } thread { }",
	"thread { r0 = load x ; }",
	"init { y = 4 ; } thread { fence ; store x 1 ; }",
	"thread { store x 1 ; r0 = load y ; } thread { store y 1 ; r0 = load x ; }",
	"thread { store x 1 ; store y 1 ; } thread { r0 = load y ; r1 = load x ; }",
	"thread { store x 1 ; store y 2 ; } thread { store y 1 ; store x 2 ; }",
	"thread { r0 = load x ; store y 1 ; } thread { r0 = load y ; store x 1 ; }",
	"thread { r0 = cas x 0 1 ; } thread { r0 = cas x 0 2 ; }",
	"thread { r0 = cas x 0 0 ; r1 = cas x 0 0 ; } thread { r0 = cas x 0 0 ; }",
	"thread { r0 = load x ; r0 = r0 + 1 ; store x r0 ; } thread { r0 = load x ; r0 = r0 + 1 ; store x r0 ; }",
	"thread { r0 = load x ; skip 1 if r0 == 0 ; store y 1 ; fence ; r1 = load y ; } thread { store x 1 ; r0 = load y ; }",
	"thread { store x 1 ; } thread { store x 1 ; } thread { store x 1 ; } thread { r0 = load x ; }",
	"init { x = 1 ; } thread { } thread { r0 = cas x 1 2 ; skip 1 if r0 == 1 ; store x 3 ; } thread { r0 = cas x 2 1 ; r1 = load x ; }",
}

// turned calls see with x and one thing of it turned, all things one by one.
func turned(x api.Exec, see func(y api.Exec)) {
	n := len(x.Evs)
	places := slices.Concat(odd, []int{n - 1, n, n + 1, -n})
	for at := range x.RF {
		for _, from := range places {
			y := copyOf(x)
			y.RF[at] = from
			see(y)
		}
	}
	for loc, row := range x.CO {
		for at := range row {
			for _, place := range places {
				y := copyOf(x)
				y.CO[loc][at] = place
				see(y)
				y = copyOf(x)
				y.CO[loc] = slices.Insert(y.CO[loc], at, place)
				see(y)
			}
			for other := range row {
				y := copyOf(x)
				y.CO[loc][at], y.CO[loc][other] = row[other], row[at]
				see(y)
			}
			y := copyOf(x)
			y.CO[loc] = slices.Delete(y.CO[loc], at, at+1)
			see(y)
		}
		for other := range x.CO {
			y := copyOf(x)
			y.CO[loc], y.CO[other] = y.CO[other], y.CO[loc]
			see(y)
		}
	}
	for at := range x.Evs {
		for _, d := range []int{1, -1, 2, -2, 1 << 32, math.MinInt} {
			for field := range 6 {
				y := copyOf(x)
				shift(&y.Evs[at], field, d)
				see(y)
			}
		}
		for other := range x.Evs {
			y := copyOf(x)
			y.Evs[at], y.Evs[other] = y.Evs[other], y.Evs[at]
			see(y)
			y.RF[at], y.RF[other] = y.RF[other], y.RF[at]
			see(y)
		}
	}
}

// shift changes one field of an event.
func shift(e *api.Ev, field, d int) {
	switch field {
	case 0:
		e.T += d
	case 1:
		e.I += d
	case 2:
		e.Kind += d
	case 3:
		e.Loc += d
	case 4:
		e.R += int64(d)
	case 5:
		e.W += int64(d)
	}
}

// One source, one place, one value, one event turned: just what the second
// reckoning takes is Ok.
func Test11_1OneThingTurned(t *testing.T) {
	count := map[bool]int{}
	for _, body := range programs {
		p := compile(t, body)
		all, _ := All(p, 1000)
		for _, x := range all {
			turned(x, func(y api.Exec) {
				want := okay(p, y)
				holdOk(t, p, y, want)
				count[want]++
			})
		}
	}
	if count[true] < 2000 || count[false] < 50000 {
		t.Error(count)
	}
}

// Two things that are turned may hide each other: a value and its source, an
// event and its thread.
func Test11_1TwoThingsTurned(t *testing.T) {
	for _, body := range programs {
		p := compile(t, body)
		all, _ := All(p, 1000)
		for _, x := range all {
			for at, e := range x.Evs {
				for _, value := range []int64{-1, 0, 1, 2, 3, most} {
					for from := -1; from <= len(x.Evs); from++ {
						y := copyOf(x)
						y.Evs[at].R = value
						y.RF[at] = from
						holdOk(t, p, y, okay(p, y))
						if isRead(e) {
							y.Evs[at].Kind = 9 - e.Kind
							holdOk(t, p, y, okay(p, y))
						}
					}
				}
			}
		}
	}
}

func Test11_1Lengths(t *testing.T) {
	for _, body := range programs {
		p := compile(t, body)
		all, _ := All(p, 1000)
		for _, x := range all {
			holdOk(t, p, x, true)
			n := len(x.Evs)
			for short := range n {
				y := copyOf(x)
				y.Evs = y.Evs[:short]
				holdOk(t, p, y, false)
				y.RF = y.RF[:short]
				holdOk(t, p, y, false)
				y = copyOf(x)
				y.RF = y.RF[:short]
				holdOk(t, p, y, false)
				y = copyOf(x)
				y.Evs, y.RF = y.Evs[short+1:], y.RF[short+1:]
				holdOk(t, p, y, false)
				y = copyOf(x)
				y.Evs, y.RF = slices.Insert(y.Evs, short, y.Evs[short]), slices.Insert(y.RF, short, y.RF[short])
				holdOk(t, p, y, false)
				y = copyOf(x)
				y.Evs, y.RF = slices.Delete(y.Evs, short, short+1), slices.Delete(y.RF, short, short+1)
				holdOk(t, p, y, false)
			}
			for _, e := range []api.Ev{{}, {T: -1, Kind: 2}, {T: len(p.Threads), Kind: 3}, {T: len(p.Threads) - 1, I: n, Kind: 3}, {T: -2}} {
				y := copyOf(x)
				y.Evs = append(y.Evs, e)
				holdOk(t, p, y, false)
				y.RF = append(y.RF, -1)
				holdOk(t, p, y, false)
			}
			y := copyOf(x)
			y.RF = append(y.RF, -1)
			holdOk(t, p, y, false)
			for loc := range x.CO {
				y = copyOf(x)
				y.CO = y.CO[:loc]
				holdOk(t, p, y, false)
				y = copyOf(x)
				y.CO = slices.Delete(y.CO, loc, loc+1)
				holdOk(t, p, y, false)
				for _, row := range [][]int{nil, {}, {loc, loc}} {
					y = copyOf(x)
					y.CO[loc] = row
					holdOk(t, p, y, false)
				}
			}
			for _, row := range [][]int{nil, {}, {0}, {len(x.CO)}} {
				y = copyOf(x)
				y.CO = append(y.CO, row)
				holdOk(t, p, y, false)
			}
		}
	}
}

// More events than PO is over: none of them is Ok, and nothing goes wrong.
func Test11_1MoreThan64Events(t *testing.T) {
	body := strings.Repeat("thread { "+strings.Repeat("store x 1 ; ", 6)+"} ", 4)
	p := compile(t, body)
	x := api.Exec{Evs: begins(0), RF: []int{-1}, CO: [][]int{{0}}}
	for k := range 4 {
		for i := range 6 {
			x.CO[0] = append(x.CO[0], len(x.Evs))
			x.Evs = append(x.Evs, api.Ev{T: k, I: i, Kind: 2, W: 1})
			x.RF = append(x.RF, -1)
		}
	}
	holdOk(t, p, x, true)
	for len(x.Evs) < 200 {
		x.CO[0] = append(x.CO[0], len(x.Evs))
		x.Evs = append(x.Evs, api.Ev{T: 3, I: len(x.Evs) - 19, Kind: 2, W: 1})
		x.RF = append(x.RF, -1)
		holdOk(t, p, x, false)
	}
	x = api.Exec{Evs: begins(0), RF: []int{-1}, CO: [][]int{{0}}}
	for i := range 100 {
		x.Evs = append(x.Evs, api.Ev{T: 0, I: i, Kind: 1})
		x.RF = append(x.RF, 0)
		holdOk(t, compile(t, "thread { r0 = load x ; }"), x, i == 0)
	}
	holdOk(t, p, api.Exec{Evs: make([]api.Ev, 65), RF: make([]int, 65), CO: make([][]int, 65)}, false)
}

// A ring of threads, each of which reads what the next one stores behind its own
// read: all values are right, and yet no one could begin.
func Test11_1Rings(t *testing.T) {
	letters := "wxyz"
	for n := 1; n <= 4; n++ {
		body := ""
		for k := range n {
			body += fmt.Sprintf("thread { r0 = load %c ; store %c 1 ; } ", letters[k], letters[(k+1)%n])
		}
		p := compile(t, body)
		for bits := range 1 << n {
			x := api.Exec{Evs: begins(make([]int64, n)...), RF: slices.Repeat([]int{-1}, n)}
			for loc := range n {
				// Thread loc-1, around the ring, writes it.
				x.CO = append(x.CO, []int{loc, n + 2*((loc+n-1)%n) + 1})
			}
			for k := range n {
				value, from := int64(bits>>k&1), k
				if value == 1 {
					from = x.CO[k][1]
				}
				x.Evs = append(x.Evs, row(k, reads(k, value), writes((k+1)%n, 1))...)
				x.RF = append(x.RF, from, -1)
			}
			holdOk(t, p, x, bits != 1<<n-1)
			if okay(p, x) != (bits != 1<<n-1) {
				t.Error("the second reckoning is wrong:", x)
			}
		}
	}
}

// Compares that read each other's writes.
func Test11_1RingOfCompares(t *testing.T) {
	p := compile(t, "thread { r0 = cas x 0 0 ; } thread { r0 = cas x 0 0 ; } thread { r0 = cas x 0 0 ; }")
	count := 0
	for a := -1; a < 5; a++ {
		for b := -1; b < 5; b++ {
			for c := -1; c < 5; c++ {
				x := api.Exec{Evs: slices.Concat(begins(0), row(0, won(0, 0, 0)), row(1, won(0, 0, 0)), row(2, won(0, 0, 0))), RF: []int{-1, a, b, c}, CO: [][]int{{0, 3, 1, 2}}}
				want := okay(p, x)
				holdOk(t, p, x, want)
				if want {
					count++
				}
			}
		}
	}
	// Trees of four of which the Init is the root.
	if count != 16 {
		t.Error(count)
	}
}

// anyTest makes small tests in which threads often meet.
func anyTest(r *rand.Rand, threads, length int) api.Test {
	locs := "xyza"[:1+r.Intn(4)]
	operand := func() api.Operand {
		if r.Intn(3) > 0 {
			return number([]int64{0, 0, 1, 1, 2, -1}[r.Intn(6)])
		}
		return register(r.Intn(2))
	}
	t := api.Test{Name: "a"}
	for _, place := range r.Perm(len(locs))[:r.Intn(len(locs)+1)] {
		t.Init = append(t.Init, api.Init{Loc: int(locs[place]), Value: int64(r.Intn(3))})
	}
	for range 1 + r.Intn(threads) {
		list := make([]api.Ins, r.Intn(length+1))
		for at := range list {
			list[at] = anyIns(r, operand, int(locs[r.Intn(len(locs))]), len(list)-at-1)
		}
		t.Threads = append(t.Threads, list)
	}
	return t
}

// anyIns has left instructions behind it.
func anyIns(r *rand.Rand, operand func() api.Operand, loc, left int) api.Ins {
	switch kind := r.Intn(11); {
	case kind < 3:
		return api.Ins{Kind: api.IStore, Loc: loc, A: operand()}
	case kind < 6:
		return api.Ins{Kind: api.ILoad, Reg: r.Intn(2), Loc: loc}
	case kind < 8:
		return api.Ins{Kind: api.ICas, Reg: r.Intn(2), Loc: loc, A: operand(), B: operand()}
	case kind == 8:
		return api.Ins{Kind: api.IFence}
	case kind == 9 && left > 0:
		return api.Ins{Kind: api.ISkip, A: operand(), B: operand(), N: 1 + r.Intn(left)}
	}
	i := api.Ins{Kind: api.ISet, Reg: r.Intn(2), A: operand(), B: number(0)}
	if i.Op = r.Intn(7); i.Op > 0 {
		i.B = operand()
	}
	return i
}

func Test11_1AnyCandidates(t *testing.T) {
	r := rand.New(rand.NewSource(111))
	count := map[bool]int{}
	for range 3000 {
		p := ready(t, anyTest(r, 4, 4))
		all, _ := All(p, 500)
		for range min(len(all), 6) {
			x := copyOf(all[r.Intn(len(all))])
			if !okay(p, x) {
				t.Fatal(p, x)
			}
			holdOk(t, p, x, true)
			for range r.Intn(3) {
				distort(r, &x, all)
			}
			want := okay(p, x)
			holdOk(t, p, x, want)
			count[want]++
		}
	}
	if count[true] < 2000 || count[false] < 2000 {
		t.Error(count)
	}
}

// distort turns something of x, or takes it from another candidate.
func distort(r *rand.Rand, x *api.Exec, all []api.Exec) {
	other := copyOf(all[r.Intn(len(all))])
	switch n := len(x.Evs); r.Intn(6) {
	case 0:
		x.Evs = other.Evs
	case 1:
		x.RF = other.RF
	case 2:
		x.CO = other.CO
	case 3:
		if n > 0 {
			shift(&x.Evs[r.Intn(n)], r.Intn(6), r.Intn(3)-1)
		}
	case 4:
		if len(x.RF) > 0 {
			x.RF[r.Intn(len(x.RF))] = r.Intn(n+3) - 2
		}
	case 5:
		if len(x.CO) > 0 {
			row := x.CO[r.Intn(len(x.CO))]
			r.Shuffle(len(row), func(a, b int) { row[a], row[b] = row[b], row[a] })
		}
	}
}

// before is a second reckoning of Less: -1, 0 or 1.
func before(a, b api.Exec) int {
	flat := func(e api.Ev) []int {
		return []int{e.T, e.I, e.Kind, e.Loc, int(e.R), int(e.W)}
	}
	for at := 0; at < len(a.Evs) || at < len(b.Evs); at++ {
		if at == len(a.Evs) {
			return -1
		}
		if at == len(b.Evs) {
			return 1
		}
		if c := rowBefore(flat(a.Evs[at]), flat(b.Evs[at])); c != 0 {
			return c
		}
	}
	if c := rowBefore(a.RF, b.RF); c != 0 {
		return c
	}
	for at := 0; at < len(a.CO) || at < len(b.CO); at++ {
		if at == len(a.CO) {
			return -1
		}
		if at == len(b.CO) {
			return 1
		}
		if c := rowBefore(a.CO[at], b.CO[at]); c != 0 {
			return c
		}
	}
	return 0
}

func rowBefore(a, b []int) int {
	for len(a) > 0 && len(b) > 0 && a[0] == b[0] {
		a, b = a[1:], b[1:]
	}
	switch {
	case len(a) == 0 && len(b) == 0:
		return 0
	case len(a) == 0 || len(b) > 0 && a[0] < b[0]:
		return -1
	}
	return 1
}

func holdOrder(t *testing.T, a, b api.Exec, want int) {
	t.Helper()
	if Less(a, b) != (want < 0) || Less(b, a) != (want > 0) || Same(a, b) != (want == 0) || Same(b, a) != (want == 0) {
		t.Fatalf("%v and %v: %v %v %v, want %d", a, b, Less(a, b), Less(b, a), Same(a, b), want)
	}
}

// Each field parts two that are the same ahead of it, whatever comes behind it.
func Test11_2LessByEachField(t *testing.T) {
	same := []api.Ev{{T: -1, I: 5, Kind: 2}, {T: 3, I: 1, Kind: 9, Loc: -7, R: 8, W: -8}}
	steps := []int{math.MinInt, math.MinInt + 1, -1 << 40, -256, -10, -9, -2, -1, 0, 1, 2, 9, 10, 255, 256, 1 << 32, 1<<32 + 1, math.MaxInt - 1, math.MaxInt}
	set := func(e api.Ev, field, n int) api.Ev {
		switch field {
		case 0:
			e.T = n
		case 1:
			e.I = n
		case 2:
			e.Kind = n
		case 3:
			e.Loc = n
		case 4:
			e.R = int64(n)
		case 5:
			e.W = int64(n)
		}
		return e
	}
	for field := range 6 {
		for low, a := range steps {
			for high, b := range steps {
				ev, other := set(api.Ev{}, field, a), set(api.Ev{}, field, b)
				for behind := field + 1; behind < 6; behind++ {
					// What stands behind says the contrary.
					ev, other = set(ev, behind, b), set(other, behind, a)
				}
				want := rowBefore([]int{low}, []int{high})
				x := api.Exec{Evs: append(slices.Clone(same), ev, api.Ev{T: high}), RF: []int{high, 1}, CO: [][]int{{high}, {1}}}
				y := api.Exec{Evs: append(slices.Clone(same), other, api.Ev{T: low}), RF: []int{low}, CO: [][]int{{low}}}
				if want == 0 {
					y = copyOf(x)
				}
				holdOrder(t, x, y, want)
			}
		}
	}
}

func Test11_2Less(t *testing.T) {
	ev := []api.Ev{{T: 1, I: 2, Kind: 3, Loc: 1, R: 5, W: 6}}
	rf := []int{3}
	co := [][]int{{1, 2}, {3}}
	a := api.Exec{Evs: ev, RF: rf, CO: co}
	for name, x := range map[string]struct {
		b    api.Exec
		want int
	}{
		"itself":                             {a, 0},
		"a copy":                             {copyOf(a), 0},
		"none":                               {api.Exec{}, 1},
		"none, the rest greater":             {api.Exec{RF: []int{9}, CO: [][]int{{9}}}, 1},
		"one more event, lesser":             {api.Exec{Evs: append(slices.Clone(ev), api.Ev{T: math.MinInt})}, -1},
		"a lesser event, one more":           {api.Exec{Evs: []api.Ev{{T: 1, I: 2, Kind: 3, Loc: 1, R: 5, W: 5}, {}}, RF: []int{9}}, 1},
		"RF ends first":                      {api.Exec{Evs: ev, CO: [][]int{{9}}}, 1},
		"RF ends last":                       {api.Exec{Evs: ev, RF: []int{3, math.MinInt}}, -1},
		"RF greater":                         {api.Exec{Evs: ev, RF: []int{4}, CO: nil}, -1},
		"RF greater and shorter":             {api.Exec{Evs: ev, RF: []int{math.MaxInt}}, -1},
		"RF lesser":                          {api.Exec{Evs: ev, RF: []int{-1, 7}, CO: [][]int{{9}}}, 1},
		"CO ends first":                      {api.Exec{Evs: ev, RF: rf, CO: [][]int{{1, 2}}}, 1},
		"CO ends last":                       {api.Exec{Evs: ev, RF: rf, CO: [][]int{{1, 2}, {3}, nil}}, -1},
		"no CO":                              {api.Exec{Evs: ev, RF: rf}, 1},
		"a row ends first":                   {api.Exec{Evs: ev, RF: rf, CO: [][]int{{1}, {9}, {9}}}, 1},
		"a row ends last":                    {api.Exec{Evs: ev, RF: rf, CO: [][]int{{1, 2, math.MinInt}}}, -1},
		"a row is none":                      {api.Exec{Evs: ev, RF: rf, CO: [][]int{nil, {3}}}, 1},
		"the last row is none":               {api.Exec{Evs: ev, RF: rf, CO: [][]int{{1, 2}, nil}}, 1},
		"a row greater":                      {api.Exec{Evs: ev, RF: rf, CO: [][]int{{1, 3}}}, -1},
		"a row lesser":                       {api.Exec{Evs: ev, RF: rf, CO: [][]int{{1, -2}, {9}}}, 1},
		"a row lesser and longer":            {api.Exec{Evs: ev, RF: rf, CO: [][]int{{0, 2, 2}, {3}}}, 1},
		"the last row greater":               {api.Exec{Evs: ev, RF: rf, CO: [][]int{{1, 2}, {4}}}, -1},
		"the last row lesser":                {api.Exec{Evs: ev, RF: rf, CO: [][]int{{1, 2}, {2, 9}}}, 1},
		"the same places, parted other ways": {api.Exec{Evs: ev, RF: rf, CO: [][]int{{1}, {2, 3}}}, 1},
	} {
		t.Run(name, func(t *testing.T) { holdOrder(t, a, x.b, x.want) })
	}
}

// Nil and an empty list are the same.
func Test11_2NilAndEmpty(t *testing.T) {
	empty := api.Exec{Evs: []api.Ev{}, RF: []int{}, CO: [][]int{}}
	holdOrder(t, api.Exec{}, empty, 0)
	holdOrder(t, api.Exec{CO: [][]int{nil, nil}}, api.Exec{CO: [][]int{{}, {}}}, 0)
	holdOrder(t, api.Exec{CO: [][]int{{}}}, api.Exec{}, 1)
	holdOrder(t, api.Exec{CO: [][]int{nil}}, empty, 1)
	p := compile(t, "thread { }")
	holdOk(t, p, empty, true)
	holdOk(t, p, api.Exec{}, true)
	holdOk(t, p, api.Exec{CO: [][]int{nil}}, false)
	if Text(api.Exec{}) != "" || Text(empty) != "" || Text(api.Exec{CO: [][]int{nil}}) != " c" || Text(api.Exec{CO: [][]int{{}}}) != " c" {
		t.Error("text of none")
	}
}

// anyExec is small, so that two of them are often the same for long.
func anyExec(r *rand.Rand) api.Exec {
	var x api.Exec
	for range r.Intn(3) {
		x.Evs = append(x.Evs, api.Ev{T: r.Intn(2), I: r.Intn(2), Kind: r.Intn(2), Loc: r.Intn(2), R: int64(r.Intn(2)), W: int64(r.Intn(2))})
	}
	for range r.Intn(3) {
		x.RF = append(x.RF, r.Intn(3)-1)
	}
	for range r.Intn(3) {
		row := make([]int, r.Intn(3))
		for at := range row {
			row[at] = r.Intn(2)
		}
		x.CO = append(x.CO, row)
	}
	return x
}

func Test11_2LessOfAny(t *testing.T) {
	r := rand.New(rand.NewSource(112))
	count := map[int]int{}
	for range 200_000 {
		a, b := anyExec(r), anyExec(r)
		switch r.Intn(4) {
		case 0:
			b.Evs = a.Evs
		case 1:
			b.Evs, b.RF = a.Evs, a.RF
		case 2:
			b = copyOf(a)
			if len(b.Evs) > 0 && r.Intn(2) == 0 {
				shift(&b.Evs[r.Intn(len(b.Evs))], r.Intn(6), r.Intn(3)-1)
			}
		}
		want := before(a, b)
		holdOrder(t, a, b, want)
		count[want]++
	}
	if count[-1] < 40000 || count[1] < 40000 || count[0] < 20000 {
		t.Error(count)
	}
}

// An order: of three, the first is less than the last if it is less than the
// one between, and that than the last.
func Test11_2LessIsAnOrder(t *testing.T) {
	r := rand.New(rand.NewSource(113))
	for range 300 {
		list := make([]api.Exec, 12)
		for at := range list {
			list[at] = anyExec(r)
			if at > 0 && r.Intn(2) == 0 {
				list[at].Evs = list[r.Intn(at)].Evs
			}
		}
		for _, a := range list {
			if Less(a, a) || !Same(a, a) {
				t.Fatal(a)
			}
			for _, b := range list {
				for _, c := range list {
					if Less(a, b) && Less(b, c) && !Less(a, c) || Same(a, b) && Same(b, c) && !Same(a, c) || Same(a, b) && Less(a, c) != Less(b, c) {
						t.Fatal(a, b, c)
					}
				}
			}
		}
	}
}

func Test11_2Same(t *testing.T) {
	for _, body := range programs {
		all, _ := All(compile(t, body), 1000)
		for i, x := range all {
			for j, y := range all {
				holdOrder(t, x, y, rowBefore([]int{i}, []int{j}))
			}
			turned(x, func(y api.Exec) {
				if Same(x, y) != (before(x, y) == 0) || Same(y, x) != Same(x, y) {
					t.Fatal(x, y)
				}
			})
		}
	}
}

func Test11_2Text(t *testing.T) {
	for want, x := range map[string]api.Exec{
		"":                                {},
		"0,0,0,0,0,0,0":                   {Evs: []api.Ev{{}}, RF: []int{0}},
		"1,2,3,4,5,6,7":                   {Evs: []api.Ev{{T: 1, I: 2, Kind: 3, Loc: 4, R: 5, W: 6}}, RF: []int{7}},
		"1,2,3,4,5,6,7 -1,0,0,0,0,0,8":    {Evs: []api.Ev{{T: 1, I: 2, Kind: 3, Loc: 4, R: 5, W: 6}, {T: -1}}, RF: []int{7, 8}},
		"1,2,3,4,5,6,7 c0":                {Evs: []api.Ev{{T: 1, I: 2, Kind: 3, Loc: 4, R: 5, W: 6}}, RF: []int{7}, CO: [][]int{{0}}},
		"1,2,3,4,5,6,7 c":                 {Evs: []api.Ev{{T: 1, I: 2, Kind: 3, Loc: 4, R: 5, W: 6}}, RF: []int{7}, CO: [][]int{nil}},
		"1,2,3,4,5,6,7 c c10,-1,3 c c4 c": {Evs: []api.Ev{{T: 1, I: 2, Kind: 3, Loc: 4, R: 5, W: 6}}, RF: []int{7}, CO: [][]int{nil, {10, -1, 3}, {}, {4}, nil}},
		" c0":                             {CO: [][]int{{0}}},
		" c0,1 c2":                        {CO: [][]int{{0, 1}, {2}}},
		" c9":                             {RF: []int{5, 6}, CO: [][]int{{9}}},
		"-9223372036854775808,-9223372036854775808,-9223372036854775808,-9223372036854775808,-9223372036854775808,-9223372036854775808,-9223372036854775808 c-9223372036854775808": {
			Evs: []api.Ev{{T: least, I: least, Kind: least, Loc: least, R: least, W: least}}, RF: []int{least}, CO: [][]int{{least}}},
		"9223372036854775807,9223372036854775807,9223372036854775807,9223372036854775807,9223372036854775807,9223372036854775807,9223372036854775807 c9223372036854775807": {
			Evs: []api.Ev{{T: most, I: most, Kind: most, Loc: most, R: most, W: most}}, RF: []int{most}, CO: [][]int{{most}}},
	} {
		if got := Text(x); got != want {
			t.Errorf("%v: %q, want %q", x, got, want)
		}
	}
}

// Where RF ends ahead of the events, the others are as those that do not read.
func Test11_2TextOfShortRF(t *testing.T) {
	evs := []api.Ev{{T: 1}, {T: 2}, {T: 3}}
	for n, want := range []string{"1,0,0,0,0,0,-1 2,0,0,0,0,0,-1 3,0,0,0,0,0,-1", "1,0,0,0,0,0,5 2,0,0,0,0,0,-1 3,0,0,0,0,0,-1", "1,0,0,0,0,0,5 2,0,0,0,0,0,6 3,0,0,0,0,0,-1", "1,0,0,0,0,0,5 2,0,0,0,0,0,6 3,0,0,0,0,0,7", "1,0,0,0,0,0,5 2,0,0,0,0,0,6 3,0,0,0,0,0,7"} {
		if got := Text(api.Exec{Evs: evs, RF: []int{5, 6, 7, 8}[:n]}); got != want {
			t.Errorf("%d: %q", n, got)
		}
	}
}

// textOf is a second reckoning of Text of an Exec with as many RF as events.
func textOf(x api.Exec) string {
	var words []string
	for at, e := range x.Evs {
		words = append(words, fmt.Sprintf("%d,%d,%d,%d,%d,%d,%d", e.T, e.I, e.Kind, e.Loc, e.R, e.W, x.RF[at]))
	}
	text := strings.Join(words, " ")
	for _, row := range x.CO {
		text += " c" + strings.ReplaceAll(strings.Trim(fmt.Sprint(row), "[]"), " ", ",")
	}
	return text
}

func Test11_2TextOfAny(t *testing.T) {
	r := rand.New(rand.NewSource(114))
	texts := map[string]api.Exec{}
	for range 1000 {
		all, _ := All(ready(t, anyTest(r, 4, 4)), 100)
		for _, x := range all {
			text := Text(x)
			if text != textOf(x) {
				t.Fatalf("%q, want %q", text, textOf(x))
			}
			// Like texts are of like executions, and no others.
			if y, ok := texts[text]; ok && !Same(x, y) {
				t.Fatal(text, x, y)
			}
			texts[text] = x
		}
	}
}

// Any program, any execution: the answers are free, but there are some.
func Test11_4AnyInput(t *testing.T) {
	r := rand.New(rand.NewSource(115))
	any := func() int { return odd[r.Intn(len(odd))] }
	operand := func() api.Operand { return api.Operand{Reg: any(), Value: int64(any())} }
	places := func() []int {
		row := make([]int, r.Intn(5))
		for at := range row {
			row[at] = any()
		}
		return row
	}
	for range 20000 {
		p := api.Prog{Locs: make([]byte, r.Intn(7)), Init: make([]int64, r.Intn(7))}
		for range r.Intn(6) {
			list := make([]api.Ins, r.Intn(5))
			for at := range list {
				list[at] = api.Ins{Kind: any(), Reg: any(), Loc: any(), A: operand(), Op: any(), B: operand(), N: any()}
				if r.Intn(3) > 0 {
					list[at].Kind = 1 + r.Intn(6)
				}
				if r.Intn(3) > 0 {
					list[at].Loc = r.Intn(3)
				}
			}
			p.Threads = append(p.Threads, list)
		}
		x := api.Exec{RF: places()}
		for range r.Intn(6) {
			x.Evs = append(x.Evs, api.Ev{T: any(), I: any(), Kind: any(), Loc: any(), R: int64(any()), W: int64(any())})
		}
		for range r.Intn(4) {
			x.CO = append(x.CO, places())
		}
		Ok(p, x)
		Text(x)
		if Less(x, x) || !Same(x, x) {
			t.Fatal(x)
		}
		all, ok := All(p, any())
		if !ok && len(all) > 0 {
			t.Fatal(len(all))
		}
		for _, y := range all {
			Ok(p, y)
			Less(x, y)
			Same(y, x)
			Text(y)
		}
		all, _ = All(p, 20)
		for _, y := range all {
			// Of such a program, too, no row of threads leads into a void.
			distort(r, &y, all)
			Ok(p, y)
		}
	}
}

func Test11_4GreatExec(t *testing.T) {
	const many = 300_000
	x := api.Exec{Evs: make([]api.Ev, many), RF: make([]int, many), CO: make([][]int, many)}
	for at := range x.Evs {
		x.Evs[at] = api.Ev{T: 0, I: at, Kind: 1}
		x.CO[at] = []int{at}
	}
	y := copyOf(x)
	for _, body := range programs {
		p := compile(t, body)
		holdOk(t, p, x, false)
		z := copyOf(x)
		z.Evs = slices.Concat(begins(p.Init...), z.Evs)
		holdOk(t, p, z, false)
	}
	one := compile(t, "thread { r0 = load x ; }")
	row := make([]int, many)
	holdOk(t, one, api.Exec{Evs: slices.Concat(begins(0), []api.Ev{{Kind: 1}}), RF: []int{-1, 0}, CO: [][]int{row}}, false)
	holdOk(t, one, api.Exec{Evs: slices.Concat(begins(0), []api.Ev{{Kind: 1}}), RF: row, CO: [][]int{{0}}}, false)
	holdOrder(t, x, y, 0)
	y.CO[many-1][0]++
	holdOrder(t, x, y, -1)
	if text := Text(x); strings.Count(text, " c") != many || len(text) < 16*many {
		t.Error(len(text))
	}
}

// A program that Compile did not make, of more events than PO is over.
func Test11_4GreatProgs(t *testing.T) {
	load := api.Ins{Kind: api.ILoad}
	for _, n := range []int{1, 10, 11, 63, 64, 65, 1000} {
		p := api.Prog{Locs: []byte("x"), Init: []int64{0}, Threads: [][]api.Ins{slices.Repeat([]api.Ins{load}, n)}}
		x := api.Exec{Evs: begins(0), RF: []int{-1}, CO: [][]int{{0}}}
		for i := range n {
			x.Evs, x.RF = append(x.Evs, api.Ev{I: i, Kind: 1}), append(x.RF, 0)
		}
		holdOk(t, p, x, n < 64)
		All(p, 10)
	}
	many := api.Prog{Locs: make([]byte, 100_000), Threads: make([][]api.Ins, 100_000)}
	All(many, math.MaxInt)
	Ok(many, api.Exec{})
	many.Locs = nil
	All(many, math.MaxInt)
	holdOk(t, many, api.Exec{}, true)
	many.Locs, many.Threads = make([]byte, 100_000), [][]api.Ins{slices.Repeat([]api.Ins{{Kind: api.IStore}}, 10)}
	All(many, math.MaxInt)
}

// Rule 3: nothing that is handed in is changed, nor the room behind it.
func Test11_4LeavesWhatItIsGiven(t *testing.T) {
	body := "init { y = 1 ; q = 2 ; } thread { store x 1 ; r0 = load y ; r1 = cas x r0 r0 ; fence ; } thread { fence ; r0 = load x ; store y 2 ; }"
	p := compile(t, body)
	all, ok := All(p, 1000)
	if !ok || !reflect.DeepEqual(p, compile(t, body)) {
		t.Fatal("a program is changed:", p)
	}
	short := p
	short.Locs, short.Init, short.Threads = p.Locs[:2], p.Init[:2], [][]api.Ins{p.Threads[0][:3], p.Threads[1][:1]}
	All(short, 1000)
	for _, x := range all {
		// In the room behind each list stands what must stay.
		roomy := func() api.Exec {
			y := api.Exec{Evs: append(slices.Clone(x.Evs), api.Ev{T: 77}, api.Ev{T: 78}), RF: append(slices.Clone(x.RF), 77, 78)}
			for _, row := range x.CO {
				y.CO = append(y.CO, append(slices.Clone(row), 77, 78))
			}
			y.CO = append(y.CO, []int{77})
			return y
		}
		y := roomy()
		cut := api.Exec{Evs: y.Evs[:len(x.Evs)], RF: y.RF[:len(x.RF)]}
		for loc, row := range x.CO {
			y.CO[loc] = y.CO[loc][:len(row)]
		}
		cut.CO = y.CO[:len(x.CO)]
		holdOk(t, p, cut, true)
		holdOk(t, short, cut, false)
		holdOrder(t, cut, x, 0)
		if Text(cut) != Text(x) {
			t.Fatal(Text(cut))
		}
		for loc, row := range x.CO {
			// Ok sorts places: a row that falls must go on falling.
			slices.Reverse(cut.CO[loc])
			holdOk(t, p, cut, len(row) == 1)
			Text(cut)
			slices.Reverse(cut.CO[loc])
			y.CO[loc] = y.CO[loc][:len(row)+2]
		}
		if !reflect.DeepEqual(y, roomy()) {
			t.Fatal("an execution is changed:", y)
		}
	}
	down := api.Exec{Evs: begins(0, 0), RF: []int{5, 4, 3}, CO: [][]int{{0, 3, 2, 1}, {9, 8, 7}}}
	want := copyOf(down)
	Ok(p, down)
	Ok(compile(t, "init { x = 0 ; y = 0 ; } thread { }"), api.Exec{Evs: down.Evs, RF: []int{-1, -1}, CO: down.CO})
	if !reflect.DeepEqual(down, want) || !reflect.DeepEqual(p, compile(t, body)) {
		t.Error("what was handed in is changed:", down, p)
	}
}

// Rule 3: an answer is new memory, its spare room too, and nothing is kept.
func Test11_4AnswersAreNew(t *testing.T) {
	for _, body := range append(slices.Clone(programs), "thread { store x 1 ; store x 2 ; store y 1 ; } thread { store y 2 ; store y 3 ; store z 1 ; r0 = load x ; }") {
		p := compile(t, body)
		first, _ := All(p, 1000)
		want := make([]api.Exec, len(first))
		for at, x := range first {
			want[at] = copyOf(x)
		}
		again, _ := All(p, 1000)
		for at, x := range again {
			spoil(x)
			for behind, y := range again[at+1:] {
				if before(y, want[at+1+behind]) != 0 {
					t.Fatalf("%s: %d and %d share memory", body, at, at+1+behind)
				}
			}
		}
		for at, x := range first {
			if before(x, want[at]) != 0 {
				t.Fatalf("%s: two answers share memory", body)
			}
			// Each list of one answer is its own.
			for loc := range x.CO {
				row := x.CO[loc][:cap(x.CO[loc])]
				for i := range row {
					row[i] = 99
				}
				x.CO[loc] = want[at].CO[loc]
				if before(x, want[at]) != 0 {
					t.Fatalf("%s: lists of one answer share memory: %v", body, x)
				}
			}
			for i := range x.RF[:cap(x.RF)] {
				x.RF[:cap(x.RF)][i] = 99
			}
			if !slices.Equal(x.Evs, want[at].Evs) {
				t.Fatal(body, x)
			}
		}
		if !reflect.DeepEqual(p, compile(t, body)) {
			t.Fatal("an answer shares memory with a program:", p)
		}
		last, _ := All(p, 1000)
		for at, x := range last {
			if before(x, want[at]) != 0 {
				t.Fatalf("%s: an answer is kept", body)
			}
		}
	}
}

// spoil fills all memory of x, its spare room too.
func spoil(x api.Exec) {
	for i := range x.Evs[:cap(x.Evs)] {
		x.Evs[:cap(x.Evs)][i] = api.Ev{T: 8, I: 8, Kind: 8, Loc: 8, R: 8, W: 8}
	}
	for i := range x.RF[:cap(x.RF)] {
		x.RF[:cap(x.RF)][i] = 88
	}
	for _, row := range x.CO {
		for i := range row[:cap(row)] {
			row[:cap(row)][i] = 88
		}
	}
	for i := range x.CO[:cap(x.CO)] {
		x.CO[:cap(x.CO)][i] = []int{88}
	}
}

// What was handed in may go on changing, and a later call sees it.
func Test11_4NothingIsKept(t *testing.T) {
	p := compile(t, "init { x = 5 ; } thread { r0 = load x ; }")
	first, _ := All(p, 10)
	p.Init[0] = 6
	second, _ := All(p, 10)
	if Text(first[0]) != "-1,0,2,0,0,5,-1 0,0,1,0,5,0,0 c0" || Text(second[0]) != "-1,0,2,0,0,6,-1 0,0,1,0,6,0,0 c0" {
		t.Error(Text(first[0]), Text(second[0]))
	}
	holdOk(t, p, first[0], false)
	holdOk(t, p, second[0], true)
}
