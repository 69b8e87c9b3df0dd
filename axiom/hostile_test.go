package axiom

import (
	"math"
	"math/rand"
	"reflect"
	"slices"
	"strings"
	"testing"

	"jacquard/api"
	"jacquard/exec"
)

// odd are numbers at which places and fields may go wrong: some of them are 0, 1
// or -1 when they are cut to few bits.
var odd = []int{math.MinInt, math.MinInt + 1, -1<<32 - 1, -1 << 32, -256, -65, -64, -2, -1, 0, 1, 2, 3, 4, 5, 6, 7, 63, 64, 65, 255, 256, 1 << 16, 1 << 32, 1<<32 + 1, math.MaxInt - 1, math.MaxInt}

// ask asks all that can be asked of x. What it is told is free, but it is told
// something, and Rels are all over the same events.
func ask(t *testing.T, x api.Exec) {
	t.Helper()
	po, rf, co, fr := Rels(x)
	want := len(x.Evs)
	if want > 64 {
		want = 0
	}
	for _, r := range []int{po.N(), rf.N(), co.N(), fr.N()} {
		if r != want {
			t.Fatalf("over %d, want %d", r, want)
		}
	}
	Uniproc(x)
	Atomic(x)
	for _, m := range slices.Concat(models, strangers[:6]) {
		kept := Kept(m, x)
		if m < 1 || m > 3 {
			want = 0
		}
		if kept.N() != want {
			t.Fatalf("model %d: over %d, want %d", m, kept.N(), want)
		}
		if Consistent(m, x) && (m < 1 || m > 3 || !Uniproc(x) || !Atomic(x)) {
			t.Fatalf("model %d: %v", m, x)
		}
	}
}

func Test12_4NoEvents(t *testing.T) {
	for _, x := range []api.Exec{
		{},
		{Evs: []api.Ev{}, RF: []int{}, CO: [][]int{}},
		{CO: [][]int{nil, {}}},
		{RF: odd},
		{CO: [][]int{odd, odd, nil, {0}, {0, 0}}},
		{RF: []int{0, 1, -1, 2}, CO: [][]int{{0, 1}, {1, 0}}},
	} {
		ask(t, x)
	}
}

// RF and CO cut off, made longer, and with each place turned to an odd one.
func Test12_4OneThingTurned(t *testing.T) {
	for _, k := range knowns() {
		n := len(k.x.Evs)
		for at := range n + 1 {
			ask(t, api.Exec{Evs: k.x.Evs[:at], RF: k.x.RF, CO: k.x.CO})
			ask(t, api.Exec{Evs: k.x.Evs, RF: k.x.RF[:at], CO: k.x.CO})
		}
		for at := range len(k.x.CO) + 1 {
			ask(t, api.Exec{Evs: k.x.Evs, RF: k.x.RF, CO: k.x.CO[:at]})
		}
		for _, place := range slices.Concat(odd, []int{n - 1, n, n + 1, -n}) {
			y := copyOf(k.x)
			y.RF = append(y.RF, place, place)
			y.CO = append(y.CO, []int{place}, []int{place, 0, place})
			ask(t, y)
			for at := range k.x.RF {
				y := copyOf(k.x)
				y.RF[at] = place
				ask(t, y)
			}
			for loc, row := range k.x.CO {
				for at := range row {
					y := copyOf(k.x)
					y.CO[loc][at] = place
					ask(t, y)
					y = copyOf(k.x)
					y.CO[loc] = slices.Insert(y.CO[loc], at, place)
					ask(t, y)
				}
			}
			for at := range k.x.Evs {
				for field := range 6 {
					y := copyOf(k.x)
					turn(&y.Evs[at], field, place)
					ask(t, y)
				}
			}
		}
	}
}

// turn sets one field of an event.
func turn(e *api.Ev, field, n int) {
	switch field {
	case 0:
		e.T = n
	case 1:
		e.I = n
	case 2:
		e.Kind = n
	case 3:
		e.Loc = n
	case 4:
		e.R = int64(n)
	case 5:
		e.W = int64(n)
	}
}

func Test12_4AnyExec(t *testing.T) {
	r := rand.New(rand.NewSource(127))
	any := func() int { return odd[r.Intn(len(odd))] }
	places := func() []int {
		row := make([]int, r.Intn(8))
		for at := range row {
			row[at] = any()
		}
		return row
	}
	for range 20000 {
		x := api.Exec{RF: places()}
		for range r.Intn(8) {
			e := api.Ev{T: any(), I: any(), Kind: any(), Loc: any(), R: int64(any()), W: int64(any())}
			if r.Intn(2) == 0 {
				e.T, e.Kind, e.Loc = r.Intn(3)-1, 1+r.Intn(5), r.Intn(2)
			}
			x.Evs = append(x.Evs, e)
		}
		for range r.Intn(4) {
			x.CO = append(x.CO, places())
		}
		ask(t, x)
	}
}

// great is n events of one thread, of which each reads from the one ahead of it.
func great(n int) api.Exec {
	x := api.Exec{CO: [][]int{nil}}
	for at := range n {
		x.Evs, x.RF = append(x.Evs, won(0, 0, 0)), append(x.RF, at-1)
		x.Evs[at].I, x.CO[0] = at, append(x.CO[0], at)
	}
	return x
}

// As many events as a Rel has room for, and more.
func Test12_4ManyEvents(t *testing.T) {
	for _, n := range []int{1, 2, 28, 62, 63, 64} {
		x := great(n)
		ask(t, x)
		po, rf, co, fr := Rels(x)
		if len(po.Pairs()) != n*(n-1)/2 || len(rf.Pairs()) != n-1 || co != po || len(fr.Pairs()) != (n-1)*(n-2)/2 {
			t.Error(n, len(po.Pairs()), len(rf.Pairs()), len(co.Pairs()), len(fr.Pairs()))
		}
		for _, m := range models {
			if !Consistent(m, x) || Kept(m, x) != po {
				t.Error(n, m)
			}
		}
		if n > 2 {
			// The last one reads from the first.
			x.RF[n-1] = 0
			if Uniproc(x) || Atomic(x) || Consistent(api.MPSO, x) {
				t.Error(n)
			}
		}
	}
	for _, n := range []int{65, 66, 128, 1000, 300_000} {
		x := great(n)
		ask(t, x)
		// No relation is over so many: none of them is told to be anything.
		if Uniproc(x) || Atomic(x) || Consistent(api.MSC, x) {
			t.Error(n)
		}
		x.CO = append(x.CO, slices.Repeat([]int{63, 64, 0, -1, 5}, n/5))
		ask(t, x)
		x.Evs = x.Evs[:64]
		ask(t, x)
		if n < 300_000 {
			x.CO = slices.Repeat(x.CO, 50)
			ask(t, x)
		}
	}
}

// Any program, also such as Compile does not make.
func Test12_4AnyProgram(t *testing.T) {
	r := rand.New(rand.NewSource(128))
	any := func() int { return odd[r.Intn(len(odd))] }
	operand := func() api.Operand { return api.Operand{Reg: any(), Value: int64(any())} }
	told := 0
	for range 8000 {
		p := api.Prog{Locs: make([]byte, r.Intn(7)), Init: make([]int64, r.Intn(7))}
		for range r.Intn(6) {
			list := make([]api.Ins, r.Intn(5))
			for at := range list {
				list[at] = api.Ins{Kind: any(), Reg: any(), Loc: any(), A: operand(), Op: any(), B: operand(), N: any()}
				if r.Intn(3) > 0 {
					list[at].Kind = 1 + r.Intn(6)
				}
				if r.Intn(3) > 0 {
					list[at].Loc = r.Intn(3)
				}
			}
			p.Threads = append(p.Threads, list)
		}
		m := models[r.Intn(3)]
		all, ok := All(p, m, any())
		if !ok && all != nil {
			t.Fatal(len(all))
		}
		for _, x := range all {
			told++
			if !exec.Ok(p, x) || !Consistent(m, x) {
				t.Fatalf("%v, model %d: %s", p, m, exec.Text(x))
			}
		}
		All(p, any(), any())
	}
	if told < 1000 {
		t.Error(told)
	}
}

// Programs that are greater than Compile makes.
func Test12_4GreatPrograms(t *testing.T) {
	for _, kind := range []int{api.IStore, api.ILoad, api.IFence, api.ICas, api.ISet, api.ISkip, 0, 7} {
		for _, n := range []int{9, 10, 11, 24, 25, 63, 64, 65, 100_000} {
			list := slices.Repeat([]api.Ins{{Kind: kind}}, n)
			for _, threads := range []int{1, 2, 4, 5, 100} {
				p := api.Prog{Locs: []byte("x"), Init: []int64{0}, Threads: slices.Repeat([][]api.Ins{list}, threads)}
				for _, m := range []int{-1, 1, 2, 3, 4} {
					if all, ok := All(p, m, 100); !ok && all != nil {
						t.Fatal(len(all))
					}
				}
			}
		}
	}
	many := api.Prog{Locs: make([]byte, 100_000), Threads: make([][]api.Ins, 100_000)}
	All(many, api.MSC, math.MaxInt)
	many.Locs = nil
	All(many, api.MSC, math.MaxInt)
	All(api.Prog{Locs: make([]byte, 4), Threads: [][]api.Ins{{{Kind: api.ILoad, Loc: 3}}}}, api.MSC, math.MaxInt)
	All(api.Prog{}, api.MSC, math.MaxInt)
}

// Programs of the greatest size, of every kind: All ends soon, whatever the
// number of its executions and of its candidates.
func Test12_4AllEnds(t *testing.T) {
	r := rand.New(rand.NewSource(129))
	few := map[bool]int{}
	for range 40 {
		test := api.Test{Name: "a"}
		locs := "wxyz"[:1+r.Intn(4)]
		for range 4 {
			list := make([]api.Ins, 6)
			operand := func() api.Operand {
				if r.Intn(2) == 0 {
					return number(int64(r.Intn(3)))
				}
				return register(r.Intn(2))
			}
			for at := range list {
				list[at] = anyIns(r, operand, int(locs[r.Intn(len(locs))]), len(list)-at-1)
			}
			test.Threads = append(test.Threads, list)
		}
		p := ready(t, test)
		all, ok := All(p, models[r.Intn(3)], 20_000)
		few[ok]++
		if !ok && all != nil {
			t.Fatal(p)
		}
	}
	if few[true] == 0 || few[false] == 0 {
		t.Error(few)
	}
	rep := strings.Repeat
	for _, body := range []string{
		rep("thread { "+rep("r0 = load x ; store x r0 ; ", 3)+"} ", 4),
		rep("thread { "+rep("r0 = load x ; ", 5)+"r1 = cas x 9 9 ; } ", 4),
		// Each waits for what the last thread never writes.
		rep("thread { "+rep("r0 = load x ; r0 = load y ; r0 = load z ; ", 2)+"} ", 3) + "thread { r0 = cas x 9 9 ; r0 = cas y 9 9 ; r0 = cas z 9 9 ; }",
		rep("thread { "+rep("r0 = load x ; store y 1 ; ", 3)+"} ", 2) + "thread { r0 = load y ; skip 1 if r0 == r0 ; store x 1 ; r1 = cas x 7 7 ; }",
		// Little is left to choose in the last thread, but there are many ways
		// to come to it.
		rep("thread { "+rep("store x 1 ; ", 5)+"} ", 2) + "thread { " + rep("store x 1 ; ", 4) + "} thread { " + rep("store z 1 ; ", 4) + rep("r0 = load z ; ", 6) + "}",
	} {
		for _, m := range models {
			All(compile(t, body), m, 20_000)
		}
	}
}

// Rule 3: nothing that is handed in is changed, nor the room behind it.
func Test12_4LeavesWhatItIsGiven(t *testing.T) {
	body := "init { y = 1 ; q = 2 ; } thread { store x 1 ; r0 = load y ; r1 = cas x r0 r0 ; fence ; } thread { fence ; r0 = load x ; store y 2 ; }"
	p := compile(t, body)
	short := p
	short.Locs, short.Init, short.Threads = p.Locs[:2], p.Init[:2], [][]api.Ins{p.Threads[0][:3], p.Threads[1][:1]}
	for _, m := range []int{0, 1, 2, 3, 4} {
		All(p, m, 1000)
		All(p, m, 1)
		All(short, m, 1000)
	}
	if !reflect.DeepEqual(p, compile(t, body)) {
		t.Fatal("a program is changed:", p)
	}
	every, _ := exec.All(p, 1000)
	for _, k := range knowns() {
		every = append(every, k.x)
	}
	every = append(every, api.Exec{Evs: begins(0, 0), RF: []int{5, 4, 3}, CO: [][]int{{0, 3, 2, 1}, {9, 8, 7}}})
	for _, x := range every {
		// In the room behind each list stands what must stay.
		roomy := func() api.Exec {
			y := api.Exec{Evs: append(slices.Clone(x.Evs), api.Ev{T: 77}, api.Ev{T: 78}), RF: append(slices.Clone(x.RF), 77, 78)}
			for _, row := range x.CO {
				y.CO = append(y.CO, append(slices.Clone(row), 77, 78))
			}
			y.CO = append(y.CO, []int{77})
			return y
		}
		y := roomy()
		for loc, row := range x.CO {
			y.CO[loc] = y.CO[loc][:len(row)]
		}
		ask(t, api.Exec{Evs: y.Evs[:len(x.Evs)], RF: y.RF[:len(x.RF)], CO: y.CO[:len(x.CO)]})
		for loc, row := range x.CO {
			y.CO[loc] = y.CO[loc][:len(row)+2]
		}
		if !reflect.DeepEqual(y, roomy()) {
			t.Fatal("an execution is changed:", y)
		}
	}
}

// Rule 3: an answer is new memory, its spare room too, and nothing is kept.
func Test12_4AnswersAreNew(t *testing.T) {
	for _, body := range append(slices.Clone(programs), "thread { store x 1 ; store x 2 ; store y 1 ; } thread { store y 2 ; store y 3 ; store z 1 ; r0 = load x ; }") {
		p := compile(t, body)
		first, _ := All(p, api.MPSO, 1000)
		want := texts(first)
		again, _ := All(p, api.MPSO, 1000)
		for at, x := range again {
			spoil(x)
			if !slices.Equal(texts(again[at+1:]), want[at+1:]) {
				t.Fatalf("%s: executions of one answer share memory with %d", body, at)
			}
		}
		if !slices.Equal(texts(first), want) || !reflect.DeepEqual(p, compile(t, body)) {
			t.Fatalf("%s: answers share memory, or with the program", body)
		}
		for at, x := range first {
			// Each list of one answer is its own.
			y := copyOf(x)
			for loc, row := range x.CO {
				spoil(api.Exec{CO: [][]int{row}})
				x.CO[loc] = y.CO[loc]
				if exec.Text(x) != want[at] {
					t.Fatalf("%s: lists of one answer share memory: %v", body, x)
				}
			}
			spoil(api.Exec{RF: x.RF})
			if !slices.Equal(x.Evs, y.Evs) {
				t.Fatal(body, x)
			}
		}
		if last, _ := All(p, api.MPSO, 1000); !slices.Equal(texts(last), want) {
			t.Fatalf("%s: an answer is kept", body)
		}
	}
}

// spoil fills all memory of x, its spare room too.
func spoil(x api.Exec) {
	for i := range x.Evs[:cap(x.Evs)] {
		x.Evs[:cap(x.Evs)][i] = api.Ev{T: 8, I: 8, Kind: 8, Loc: 8, R: 8, W: 8}
	}
	for i := range x.RF[:cap(x.RF)] {
		x.RF[:cap(x.RF)][i] = 88
	}
	for _, row := range x.CO {
		for i := range row[:cap(row)] {
			row[:cap(row)][i] = 88
		}
	}
	for i := range x.CO[:cap(x.CO)] {
		x.CO[:cap(x.CO)][i] = []int{88}
	}
}

// What was handed in may go on changing, and a later call sees it.
func Test12_4NothingIsKept(t *testing.T) {
	p := compile(t, "init { x = 5 ; } thread { r0 = load x ; }")
	first, _ := All(p, api.MSC, 10)
	p.Init[0] = 6
	second, _ := All(p, api.MSC, 10)
	if exec.Text(first[0]) != "-1,0,2,0,0,5,-1 0,0,1,0,5,0,0 c0" || exec.Text(second[0]) != "-1,0,2,0,0,6,-1 0,0,1,0,6,0,0 c0" {
		t.Error(texts(first), texts(second))
	}
	x := api.Exec{Evs: slices.Concat(begins(0), row(0, writes(0, 1), reads(0, 1))), RF: []int{-1, -1, 1}, CO: [][]int{{0, 1}}}
	po, rf, co, fr := Rels(x)
	if !Consistent(api.MSC, x) {
		t.Error(x)
	}
	x.Evs[1].Kind, x.RF[2], x.CO[0][0], x.CO[0][1] = api.EFence, 0, 1, 0
	if textOf(po.Pairs()) != "1 2" || textOf(rf.Pairs()) != "1 2" || textOf(co.Pairs()) != "0 1" || textOf(fr.Pairs()) != "" {
		t.Error(po.Pairs(), rf.Pairs(), co.Pairs(), fr.Pairs())
	}
}
