package final

import (
	"math"
	"math/rand"
	"reflect"
	"slices"
	"strings"
	"testing"

	"jacquard/api"
)

// odd are numbers at which places and fields may go wrong: some of them are 0, 1
// or -1 when they are cut to few bits.
var odd = []int{math.MinInt, math.MinInt + 1, -1<<32 - 1, -1 << 32, -256, -65, -64, -2, -1, 0, 1, 2, 3, 4, 5, 6, 7, 63, 64, 65, 255, 256, 1 << 16, 1 << 32, 1<<32 + 1, math.MaxInt - 1, math.MaxInt}

// copyOf shares no memory with x.
func copyOf(x api.Exec) api.Exec {
	y := api.Exec{Evs: slices.Clone(x.Evs), RF: slices.Clone(x.RF)}
	for _, row := range x.CO {
		y.CO = append(y.CO, slices.Clone(row))
	}
	return y
}

// ask asks all that can be asked of p and x. What it is told is free, but it is
// told something; what p has no thread and no location for stays 0, and what an
// end has no room for is not told.
func ask(t *testing.T, p api.Prog, x api.Exec) {
	t.Helper()
	f := Of(p, x)
	for k := len(p.Threads); k < 4; k++ {
		if f.Regs[k] != [4]int64{} {
			t.Fatal(p, x, f)
		}
	}
	for loc := len(p.Locs); loc < 4; loc++ {
		if f.Mem[loc] != 0 {
			t.Fatal(p, x, f)
		}
	}
	want := 4*min(len(p.Threads), 4) + min(len(p.Locs), 4)
	if text := Text(p, f); strings.Count(text, "=") < want || want == 0 && text != "" {
		t.Fatalf("%v %v: %q", p, x, text)
	}
	if l := Sort([]api.Final{f, {}, f}); !Has(l, f) || len(Minus(l, []api.Final{{}, f})) > 0 || Less(f, f) {
		t.Fatal(l)
	}
}

// strangers is programs that Compile does not make, beside some that it does.
func strangers(t *testing.T) []api.Prog {
	load := []api.Ins{{Kind: api.ILoad, Reg: 1, Loc: 0}, {Kind: api.IStore, Loc: 4, A: register(1)}, {Kind: api.ICas, Reg: 3, Loc: -1}}
	list := []api.Prog{
		{},
		{Locs: []byte{}, Init: []int64{}, Threads: [][]api.Ins{}},
		{Locs: []byte("x"), Init: []int64{3}},
		{Threads: [][]api.Ins{load, nil}},
		{Locs: []byte("vwxyz"), Init: []int64{1, 2, 3, 4, 5}, Threads: slices.Repeat([][]api.Ins{load}, 5)},
		{Locs: make([]byte, 1000), Threads: slices.Repeat([][]api.Ins{load}, 1000)},
		{Locs: []byte{0, '=', ' ', 255, 128}, Init: []int64{7}, Threads: [][]api.Ins{nil, load}},
	}
	for _, body := range programs {
		list = append(list, compile(t, body))
	}
	return list
}

func Test13_3NoEvents(t *testing.T) {
	for _, p := range strangers(t) {
		for _, x := range []api.Exec{
			{},
			{Evs: []api.Ev{}, RF: []int{}, CO: [][]int{}},
			{CO: [][]int{nil, {}}},
			{RF: odd},
			{CO: [][]int{odd, odd, nil, {0}, {0, 0}}},
			{RF: []int{0, 1, -1, 2}, CO: slices.Repeat([][]int{{0, 1}}, 9)},
		} {
			ask(t, p, x)
		}
	}
}

// Programs of no threads, of no locations, and of more than an end has room for:
// what there is room for is told.
func Test13_3Room(t *testing.T) {
	f := end(1, 2, 3, 4, 5, 6, 7, 8, 9, 10, 11, 12, 13, 14, 15, 16, 17, 18, 19, 20)
	whole := "0:r0=1 0:r1=2 0:r2=3 0:r3=4 1:r0=5 1:r1=6 1:r2=7 1:r3=8 2:r0=9 2:r1=10 2:r2=11 2:r3=12 3:r0=13 3:r1=14 3:r2=15 3:r3=16"
	for threads, want := range map[int]string{0: "", 5: whole, 6: whole, 64: whole, 100_000: whole} {
		p := api.Prog{Threads: make([][]api.Ins, threads)}
		if got := Text(p, f); got != want {
			t.Errorf("%d threads: %q", threads, got)
		}
		p.Locs = []byte("tuvwxyz")
		if got := Text(p, f); got != strings.TrimPrefix(want+" t=17 u=18 v=19 w=20", " ") {
			t.Errorf("%d threads and 7 locations: %q", threads, got)
		}
		ask(t, p, api.Exec{Evs: []api.Ev{{T: threads, Kind: api.ERead}, {T: threads - 1, Kind: api.ERead, R: 5}}, CO: [][]int{4: {0}}})
	}
	if got := Text(api.Prog{Locs: make([]byte, 100_000)}, f); got != "\x00=17 \x00=18 \x00=19 \x00=20" {
		t.Errorf("%q", got)
	}
}

// RF and CO cut off, made longer, and with each place turned to an odd one; each
// field of each event turned to an odd number.
func Test13_3OneThingTurned(t *testing.T) {
	for _, body := range programs {
		p := compile(t, body)
		all := candidates(t, p)
		for _, x := range all[max(0, len(all)-2):] {
			for at := range len(x.Evs) + 1 {
				ask(t, p, api.Exec{Evs: x.Evs[:at], RF: x.RF, CO: x.CO})
				ask(t, p, api.Exec{Evs: x.Evs, RF: x.RF[:at], CO: x.CO})
			}
			for at := range len(x.CO) + 1 {
				ask(t, p, api.Exec{Evs: x.Evs, RF: x.RF, CO: x.CO[:at]})
			}
			for loc, row := range x.CO {
				for at := range row {
					y := copyOf(x)
					y.CO[loc] = row[:at]
					ask(t, p, y)
				}
			}
			n := len(x.Evs)
			for _, place := range slices.Concat(odd, []int{n - 1, n, n + 1, -n}) {
				turned(x, place, func(y api.Exec) { ask(t, p, y) })
			}
		}
	}
}

// turned calls see with x and one number of it turned to n, all one by one.
func turned(x api.Exec, n int, see func(y api.Exec)) {
	y := copyOf(x)
	y.RF = append(y.RF, n, n)
	y.CO = append(y.CO, []int{n}, []int{n, 0, n})
	see(y)
	for at := range x.RF {
		y := copyOf(x)
		y.RF[at] = n
		see(y)
	}
	for loc, row := range x.CO {
		for at := range len(row) + 1 {
			y := copyOf(x)
			y.CO[loc] = slices.Insert(y.CO[loc], at, n)
			see(y)
			if at < len(row) {
				y = copyOf(x)
				y.CO[loc][at] = n
				see(y)
			}
		}
	}
	for at := range x.Evs {
		for field := range 6 {
			y := copyOf(x)
			e := &y.Evs[at]
			switch field {
			case 0:
				e.T = n
			case 1:
				e.I = n
			case 2:
				e.Kind = n
			case 3:
				e.Loc = n
			case 4:
				e.R = int64(n)
			case 5:
				e.W = int64(n)
			}
			see(y)
		}
	}
}

// A location whose last place is none, and an event of a thread that is none.
func Test13_3PlacesAtTheBounds(t *testing.T) {
	p := compile(t, "init { x = 3 ; y = 4 ; } thread { r0 = load x ; r1 = load y ; }")
	x := candidates(t, p)[0]
	for _, place := range slices.Concat(odd, []int{len(x.Evs) - 1, len(x.Evs), len(x.Evs) + 1}) {
		y := copyOf(x)
		y.CO[0] = []int{place}
		want := end(3, 4)
		want.Mem[1] = 4
		if place >= 0 && place < len(x.Evs) {
			want.Mem[0] = x.Evs[place].W
		}
		if got := Of(p, y); got != want {
			t.Errorf("place %d: %v, want %v", place, got, want)
		}
	}
	for _, thread := range odd {
		if thread == 0 {
			continue
		}
		y := copyOf(x)
		y.Evs = append([]api.Ev{{T: thread, Kind: api.ERead, R: 9}, {T: thread, Kind: api.EWon, R: 9, W: 9}}, y.Evs...)
		if got := Of(p, y); got.Regs != end(3, 4).Regs {
			t.Errorf("thread %d: %v", thread, got)
		}
	}
}

func Test13_3AnyInput(t *testing.T) {
	r := rand.New(rand.NewSource(137))
	any := func() int { return odd[r.Intn(len(odd))] }
	operand := func() api.Operand { return api.Operand{Reg: any(), Value: int64(any())} }
	places := func() []int {
		row := make([]int, r.Intn(8))
		for at := range row {
			row[at] = any()
		}
		return row
	}
	for range 30000 {
		p := api.Prog{Locs: make([]byte, r.Intn(7)), Init: make([]int64, r.Intn(7))}
		for range r.Intn(7) {
			list := make([]api.Ins, r.Intn(5))
			for at := range list {
				list[at] = api.Ins{Kind: any(), Reg: any(), Loc: any(), A: operand(), Op: any(), B: operand(), N: any()}
				if r.Intn(3) > 0 {
					list[at].Kind = 1 + r.Intn(6)
				}
			}
			p.Threads = append(p.Threads, list)
		}
		x := api.Exec{RF: places()}
		for range r.Intn(8) {
			e := api.Ev{T: any(), I: any(), Kind: any(), Loc: any(), R: int64(any()), W: int64(any())}
			if r.Intn(2) == 0 {
				e.T, e.Kind, e.Loc = r.Intn(3)-1, 1+r.Intn(5), r.Intn(2)
			}
			x.Evs = append(x.Evs, e)
		}
		for range r.Intn(6) {
			x.CO = append(x.CO, places())
		}
		ask(t, p, x)
	}
}

func Test13_3GreatInput(t *testing.T) {
	const n = 200_000
	x := api.Exec{CO: make([][]int, n)}
	for at := range n {
		x.Evs = append(x.Evs, api.Ev{T: at % 5, I: at, Kind: 1 + at%5, W: int64(at)})
		x.RF = append(x.RF, n-at)
	}
	x.CO[1], x.CO[2] = slices.Repeat([]int{n - 1}, n), slices.Repeat([]int{n}, n)
	for _, kind := range []int{api.IStore, api.ILoad, api.IFence, api.ICas, api.ISet, api.ISkip, 0, 7} {
		list := slices.Repeat([]api.Ins{{Kind: kind, Reg: 2, N: 1}}, n)
		ask(t, api.Prog{Locs: make([]byte, n), Threads: slices.Repeat([][]api.Ins{list}, n)}, x)
		ask(t, api.Prog{Locs: make([]byte, n), Threads: [][]api.Ins{list}}, api.Exec{})
	}
}

// Rows of as many ends as there may be executions, all unlike, all the same, and
// few of them: no call takes long.
func Test13_3GreatRows(t *testing.T) {
	const n = 100_000
	falling, same, few := make([]api.Final, n), make([]api.Final, n), make([]api.Final, n)
	for at := range n {
		falling[at] = only(19, int64(n-at))
		same[at] = end(5)
		few[at] = only(at%20, 7)
	}
	for _, x := range []struct {
		l    []api.Final
		want int
	}{{falling, n}, {same, 1}, {few, 20}} {
		l := Sort(x.l)
		if len(l) != x.want || !slices.IsSortedFunc(l, before) {
			t.Error(x.want, len(l))
		}
		if rest := Minus(x.l, x.l[:1]); len(rest) != x.want-1 {
			t.Error(x.want, len(rest))
		}
		if len(Minus(x.l, l)) != 0 || len(Minus(l[:1], x.l)) != 0 || !Has(x.l, x.l[n-1]) || Has(x.l, end(6)) {
			t.Error(x.want)
		}
	}
}

// Rule 3: nothing that is handed in is changed, nor the room behind it.
func Test13_3LeavesWhatItIsGiven(t *testing.T) {
	body := "init { y = 1 ; q = 2 ; } thread { store x 1 ; r0 = load y ; r1 = cas x r0 r0 ; fence ; } thread { fence ; r0 = load x ; store y 2 ; }"
	p := compile(t, body)
	for _, x := range candidates(t, p) {
		// In the room behind each list stands what must stay.
		roomy := func() api.Exec {
			y := api.Exec{Evs: append(slices.Clone(x.Evs), api.Ev{T: 77}, api.Ev{T: 78}), RF: append(slices.Clone(x.RF), 77, 78)}
			for _, row := range x.CO {
				y.CO = append(y.CO, append(slices.Clone(row), 77, 78))
			}
			y.CO = append(y.CO, []int{77})
			return y
		}
		y := roomy()
		for loc, row := range x.CO {
			y.CO[loc] = y.CO[loc][:len(row)]
		}
		cut := api.Exec{Evs: y.Evs[:len(x.Evs)], RF: y.RF[:len(x.RF)], CO: y.CO[:len(x.CO)]}
		if Of(p, cut) != Of(p, x) || Of(p, cut) != endOf(p, x) {
			t.Fatal(x)
		}
		short := api.Prog{Locs: p.Locs[:1], Init: p.Init[:1], Threads: [][]api.Ins{p.Threads[0][:2]}}
		Of(short, cut)
		Text(short, Of(p, cut))
		for loc, row := range x.CO {
			y.CO[loc] = y.CO[loc][:len(row)+2]
		}
		if !reflect.DeepEqual(y, roomy()) {
			t.Fatal("an execution is changed:", y)
		}
	}
	if !reflect.DeepEqual(p, compile(t, body)) {
		t.Fatal("a program is changed:", p)
	}
}

func Test13_3LeavesRows(t *testing.T) {
	rows := func() (a, b []api.Final) {
		return []api.Final{end(5), end(4), end(5), end(3), end(3), end(-1), end(77), end(70)},
			[]api.Final{end(3), end(-1), end(3), end(0), end(77), end(70)}
	}
	a, b := rows()
	k, l := a[:6], b[:4]
	for range 3 {
		Sort(k)
		Sort(k[:2])
		Sort(k[:0])
		Minus(k, l)
		Minus(l, k)
		Minus(k, k)
		Minus(k[:2], nil)
		Has(k, end(3))
		Has(l, end(9))
		Less(k[0], k[1])
	}
	if c, d := rows(); !slices.Equal(a, c) || !slices.Equal(b, d) {
		t.Error("what was handed in is changed:", a, b)
	}
}

// Rule 3: an answer is new memory, its spare room too, and nothing is kept.
func Test13_3AnswersAreNew(t *testing.T) {
	rising := []api.Final{end(1), end(2), end(3), end(4), end(5)}
	want := slices.Clone(rising)
	for _, call := range []func() []api.Final{
		func() []api.Final { return Sort(rising) },
		func() []api.Final { return Sort(rising[:3]) },
		func() []api.Final { return Sort(rising[:1]) },
		func() []api.Final { return Sort(rising[:0]) },
		func() []api.Final { return Minus(rising, nil) },
		func() []api.Final { return Minus(rising[1:3], rising[3:]) },
		func() []api.Final { return Minus(rising, rising) },
		func() []api.Final { return Minus(rising[:0], rising) },
	} {
		first, again := call(), call()
		kept := slices.Clone(first)
		for at := range again[:cap(again)] {
			again[:cap(again)][at] = end(99)
		}
		if !slices.Equal(first, kept) || !slices.Equal(rising, want) || !slices.Equal(call(), kept) {
			t.Fatal("an answer shares memory:", first, rising)
		}
		// What was handed in may go on changing.
		for at := range rising {
			rising[at] = end(98)
		}
		if !slices.Equal(first, kept) {
			t.Fatal("an answer shares memory with what was handed in:", first)
		}
		copy(rising, want)
	}
}

// A later call sees what has changed, and nothing of calls ahead of it.
func Test13_3NothingIsKept(t *testing.T) {
	p := compile(t, "init { x = 5 ; } thread { r0 = load x ; }")
	x := candidates(t, p)[0]
	first := Of(p, x)
	x.Evs[0].W, x.Evs[1].R = 6, 6
	p.Init[0] = 6
	if second := Of(p, x); first != (api.Final{Regs: [4][4]int64{{5}}, Mem: [4]int64{5}}) || second != (api.Final{Regs: [4][4]int64{{6}}, Mem: [4]int64{6}}) {
		t.Error(first, second)
	}
	p.Locs[0] = 'k'
	if text := Text(p, first); text != "0:r0=5 0:r1=0 0:r2=0 0:r3=0 k=5" {
		t.Error(text)
	}
	l := []api.Final{end(2), end(1)}
	Sort(l)
	Minus(l, l)
	if !slices.Equal(Sort(l), []api.Final{end(1), end(2)}) || !slices.Equal(Minus(l, nil), Sort(l)) {
		t.Error(Sort(l))
	}
}
