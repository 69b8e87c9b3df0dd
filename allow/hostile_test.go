package allow

import (
	"math"
	"math/rand"
	"reflect"
	"slices"
	"strings"
	"testing"

	"jacquard/api"
	"jacquard/final"
)

// odd are numbers at which fields may go wrong: some of them are 0, 1 or -1 when
// they are cut to few bits.
var odd = []int{math.MinInt, math.MinInt + 1, -1<<32 - 1, -1 << 32, -256, -65, -64, -2, -1, 0, 1, 2, 3, 4, 5, 6, 7, 63, 64, 65, 255, 256, 1 << 16, 1 << 32, 1<<32 + 1, math.MaxInt - 1, math.MaxInt}

// ask asks all that can be asked of p by m. What it is told is free, but calls
// are of one mind; and beside a false is nothing.
func ask(t *testing.T, p api.Prog, m int) {
	t.Helper()
	l, ok := Finals(p, m)
	count, told := Count(p, m)
	robust, held := Robust(p, m)
	if ok != told || held && !ok || len(l) > count || len(l) == 0 != (count == 0) {
		t.Fatalf("%v, model %d: %v %v %v, %d ends of %d", p, m, ok, told, held, len(l), count)
	}
	if !ok && (l != nil || count != 0) || !held && robust {
		t.Fatalf("%v, model %d: false and %d ends of %d, %v", p, m, len(l), count, robust)
	}
	for at := range l {
		if at > 0 && !final.Less(l[at-1], l[at]) {
			t.Fatalf("%v, model %d: %v is not ahead of %v", p, m, l[at-1], l[at])
		}
	}
}

// Programs that have nothing, or no threads, or no locations: all that may be is
// that nothing is done.
func Test14_3NothingToDo(t *testing.T) {
	for _, x := range []struct {
		p   api.Prog
		mem [4]int64
	}{
		{p: api.Prog{}},
		{p: api.Prog{Locs: []byte{}, Init: []int64{}, Threads: [][]api.Ins{}}},
		{p: api.Prog{Threads: [][]api.Ins{nil}}},
		{p: api.Prog{Threads: [][]api.Ins{{}, nil, {}, {}}}},
		{p: api.Prog{Threads: [][]api.Ins{{{Kind: api.IFence}}, {{Kind: api.IFence}, {Kind: api.IFence}}}}},
		{p: api.Prog{Locs: []byte("x"), Init: []int64{3}}, mem: [4]int64{3}},
		{p: api.Prog{Locs: []byte("wxyz"), Init: []int64{1, least, most, -1}}, mem: [4]int64{1, least, most, -1}},
	} {
		for _, m := range models {
			holdEnds(t, x.p, m, []api.Final{{Mem: x.mem}}, 1, true)
		}
		for _, m := range strangers {
			ask(t, x.p, m)
		}
	}
}

// Programs that are greater than Compile makes.
func Test14_3GreatPrograms(t *testing.T) {
	for _, kind := range []int{api.IStore, api.ILoad, api.IFence, api.ICas, api.ISet, api.ISkip, 0, 7} {
		for _, size := range [][2]int{{0, 5}, {1, 5}, {1, 100_000}, {6, 5}, {7, 4}, {9, 3}, {10, 3}, {10, 4}, {11, 1}, {11, 2}, {24, 1}, {25, 1}, {64, 4}, {65, 1}, {100_000, 1}, {100_000, 5}} {
			list := slices.Repeat([]api.Ins{{Kind: kind}}, size[0])
			p := api.Prog{Locs: []byte("x"), Init: []int64{0}, Threads: slices.Repeat([][]api.Ins{list}, size[1])}
			for _, m := range []int{-1, 1, 2, 3, 4} {
				ask(t, p, m)
			}
		}
	}
	many := api.Prog{Locs: make([]byte, 100_000), Threads: make([][]api.Ins, 100_000)}
	ask(t, many, api.MTSO)
	many.Locs = nil
	ask(t, many, api.MTSO)
	ask(t, api.Prog{Locs: make([]byte, 5), Init: make([]int64, 5), Threads: [][]api.Ins{{{Kind: api.ILoad, Loc: 4}}}}, api.MPSO)
	ask(t, api.Prog{Locs: make([]byte, 4), Threads: [][]api.Ins{{{Kind: api.ILoad, Loc: 3}}}}, api.MPSO)
}

// Any program, also such as Compile does not make.
func Test14_3AnyProgram(t *testing.T) {
	r := rand.New(rand.NewSource(145))
	any := func() int { return odd[r.Intn(len(odd))] }
	operand := func() api.Operand { return api.Operand{Reg: any(), Value: int64(any())} }
	told := 0
	for range 8000 {
		p := api.Prog{Locs: make([]byte, r.Intn(7)), Init: make([]int64, r.Intn(7))}
		for range r.Intn(6) {
			list := make([]api.Ins, r.Intn(5))
			for at := range list {
				list[at] = api.Ins{Kind: any(), Reg: any(), Loc: any(), A: operand(), Op: any(), B: operand(), N: any()}
				if r.Intn(3) > 0 {
					list[at].Kind = 1 + r.Intn(6)
				}
				if r.Intn(3) > 0 {
					list[at].Loc = r.Intn(3)
				}
			}
			p.Threads = append(p.Threads, list)
		}
		for _, m := range append(models, any()) {
			ask(t, p, m)
		}
		if _, ok := Finals(p, api.MPSO); ok {
			told++
		}
	}
	if told < 1000 {
		t.Error(told)
	}
}

// Programs of the greatest size, of every kind: each call ends soon.
func Test14_3GreatestEnd(t *testing.T) {
	t.Parallel()
	rep := strings.Repeat
	for _, body := range []string{
		rep("thread { "+rep("r0 = load x ; store x r0 ; ", 3)+"} ", 4),
		rep("thread { "+rep("r0 = load x ; ", 5)+"r1 = cas x 9 9 ; } ", 4),
		rep("thread { store w 1 ; r0 = load x ; store y 1 ; r1 = load z ; store x r1 ; r2 = load w ; } ", 4),
		rep("thread { "+rep("r0 = load x ; r0 = load y ; r0 = load z ; ", 2)+"} ", 3) + "thread { r0 = cas x 9 9 ; r0 = cas y 9 9 ; r0 = cas z 9 9 ; }",
	} {
		p := compile(t, body)
		for _, m := range models {
			ask(t, p, m)
		}
	}
}

// Rule 3: nothing that is handed in is changed, nor the room behind it.
func Test14_3LeavesWhatItIsGiven(t *testing.T) {
	body := "init { y = 1 ; q = 2 ; } thread { store x 1 ; r0 = load y ; r1 = cas x r0 r0 ; fence ; } thread { fence ; r0 = load x ; store y 2 ; }"
	p := compile(t, body)
	short := p
	short.Locs, short.Init, short.Threads = p.Locs[:2], p.Init[:2], [][]api.Ins{p.Threads[0][:3], p.Threads[1][:1]}
	for _, m := range []int{0, 1, 2, 3, 4} {
		ask(t, p, m)
		ask(t, short, m)
	}
	if !reflect.DeepEqual(p, compile(t, body)) {
		t.Fatal("a program is changed:", p)
	}
}

// Rule 3: an answer is new memory, its spare room too.
func Test14_3AnswersAreNew(t *testing.T) {
	for body := range ends {
		p := compile(t, body)
		for _, m := range models {
			first, _ := Finals(p, m)
			again, _ := Finals(p, m)
			want := slices.Clone(first)
			for at := range again[:cap(again)] {
				again[:cap(again)][at] = api.Final{Mem: [4]int64{9, 9, 9, 9}}
			}
			last, ok := Finals(p, m)
			if !ok || !slices.Equal(first, want) || !slices.Equal(last, want) {
				t.Fatalf("%q, model %d: answers share memory", body, m)
			}
		}
		if !reflect.DeepEqual(p, compile(t, body)) {
			t.Fatalf("%q: answers share memory with the program", body)
		}
	}
}

// What was handed in may go on changing, and a later call sees it, and nothing of
// calls ahead of it.
func Test14_3NothingIsKept(t *testing.T) {
	p := compile(t, "init { x = 5 ; } thread { store x 1 ; r0 = load y ; } thread { store y 1 ; r0 = load x ; }")
	hold := func(count int, robust bool, want ...string) {
		t.Helper()
		l, _ := Finals(p, api.MTSO)
		if !slices.Equal(short(p, l), want) {
			t.Errorf("%s, want %s", short(p, l), want)
		}
		holdEnds(t, p, api.MTSO, l, count, robust)
	}
	hold(4, false, "1:r0=1 x=1 y=1", "1:r0=5 x=1 y=1", "0:r0=1 1:r0=1 x=1 y=1", "0:r0=1 1:r0=5 x=1 y=1")
	p.Init[0] = 1
	hold(4, true, "1:r0=1 x=1 y=1", "0:r0=1 1:r0=1 x=1 y=1")
	p.Threads[1][0].A.Value = 2
	hold(4, true, "1:r0=1 x=1 y=2", "0:r0=2 1:r0=1 x=1 y=2")
	p.Threads[0] = nil
	hold(1, true, "1:r0=1 x=1 y=2")
	p.Locs, p.Init = p.Locs[:0], nil
	holdUntold(t, p, api.MTSO)
	holdUntold(t, p, api.MSC)
}
