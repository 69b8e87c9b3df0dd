package play

import (
	"math"
	"math/rand"
	"reflect"
	"slices"
	"testing"

	"jacquard/api"
	"jacquard/vm"
)

// odd are numbers at which picks, places and fields may go wrong: some of them are
// picks when they are cut to few bits.
var odd = []int{math.MinInt, math.MinInt + 1, -1<<32 - 1, -1 << 32, -256, -65, -64, -24, -8, -4, -3, -2, -1, 0, 1, 2, 3, 4, 5, 7, 8, 11, 12, 23, 24, 25, 63, 64, 65, 255, 256, 257, 259, 1 << 16, 1 << 32, 1<<32 + 1, 1<<32 + 3, math.MaxInt - 1, math.MaxInt}

// Any number as a pick, alone, in the middle of a row and behind its end.
func Test17_3AnyPick(t *testing.T) {
	for _, body := range bodies {
		p := compile(t, body)
		for _, m := range models {
			row := Lazy(p, m)
			for _, i := range odd {
				Text([]int{i})
				for _, at := range []int{0, len(row) / 2, len(row)} {
					hold(t, p, m, slices.Insert(slices.Clone(row), at, i))
				}
			}
		}
	}
}

// spoilt is p with one number changed to an odd one, or with one more or one less.
func spoilt(r *rand.Rand, p api.Prog) api.Prog {
	q := cloned(p)
	n := odd[r.Intn(len(odd))]
	if r.Intn(2) == 0 {
		n = r.Intn(8) - 2
	}
	k := r.Intn(len(q.Threads))
	list := q.Threads[k]
	switch kind := r.Intn(12); {
	case kind == 0 && len(q.Locs) > 0:
		q.Locs[r.Intn(len(q.Locs))] = byte(n)
	case kind == 1 && len(q.Locs) > 0:
		q.Locs = q.Locs[:len(q.Locs)-1]
	case kind == 2:
		q.Init = append(q.Init, int64(n))
	case kind == 3:
		q.Threads = append(q.Threads, list)
	case kind == 4:
		q.Threads[k] = append(list, list...)
	case len(list) > 0:
		i := &list[r.Intn(len(list))]
		fields := []*int{&i.Kind, &i.Reg, &i.Loc, &i.A.Reg, &i.Op, &i.B.Reg, &i.N}
		*fields[r.Intn(len(fields))] = n
	}
	return q
}

// Programs that Compile could not give, with any model and any row: where vm.New
// makes no machine, there is none here, and where it makes one, all is as ever.
func Test17_3AnyProgram(t *testing.T) {
	r := rand.New(rand.NewSource(176))
	made, none := 0, 0
	for range 10000 {
		p := spoilt(r, ready(t, anyTest(r, 4, 8)))
		m := r.Intn(4)
		if r.Intn(8) == 0 {
			m = odd[r.Intn(len(odd))]
		}
		row := make([]int, r.Intn(5))
		for at := range row {
			row[at] = odd[r.Intn(len(odd))]
		}
		if _, code := vm.New(p, m); code != api.OK {
			holdNone(t, p, m, row)
			none++
			continue
		}
		made++
		hold(t, p, m, row)
		for _, row := range [][]int{First(p, m), Lazy(p, m)} {
			if x := hold(t, p, m, row); !x.done || x.at != len(row) {
				t.Fatalf("%v, model %d: %v", p, m, row)
			}
		}
	}
	if min(made, none) < 1000 {
		t.Error(made, none)
	}
}

// Great rows and great programs.
func Test17_3Great(t *testing.T) {
	const many = 1_000_000
	p := compile(t, bodies[6])
	for _, m := range models {
		first := First(p, m)
		for _, row := range [][]int{
			make([]int, many),
			slices.Repeat([]int{-1}, many),
			slices.Repeat(first, many/len(first)),
			append(slices.Clone(first), make([]int, many)...),
		} {
			hold(t, p, m, row)
		}
	}
	fence := api.Ins{Kind: api.IFence}
	for _, p := range []api.Prog{
		{Threads: make([][]api.Ins, many)},
		{Threads: [][]api.Ins{slices.Repeat([]api.Ins{fence}, many)}},
		{Locs: make([]byte, many), Init: make([]int64, many), Threads: [][]api.Ins{{fence}}},
		{Init: make([]int64, many), Threads: [][]api.Ins{{fence}}},
	} {
		for _, m := range models {
			steps, at, done := Run(p, m, []int{0})
			if len(steps) != 0 || at != 0 || done || Maximal(p, m, nil) || First(p, m) != nil || Lazy(p, m) != nil {
				t.Error(m, len(steps), at, done)
			}
		}
	}
}

// cloned shares no memory with p.
func cloned(p api.Prog) api.Prog {
	q := api.Prog{Locs: slices.Clone(p.Locs), Init: slices.Clone(p.Init)}
	for _, list := range p.Threads {
		q.Threads = append(q.Threads, slices.Clone(list))
	}
	return q
}

// roomy is p with spare room behind each of its lists, which is full.
func roomy(p api.Prog) api.Prog {
	locs := append(slices.Clone(p.Locs), "mnopqrst"...)
	init := append(slices.Clone(p.Init), 91, 92, 93, 94)
	more := []api.Ins{{Kind: api.IStore, A: number(95)}, {Kind: api.IFence}}
	var threads [][]api.Ins
	for _, list := range p.Threads {
		full := append(slices.Clone(list), more...)
		threads = append(threads, full[:len(list)])
	}
	threads = append(threads, more)
	return api.Prog{Locs: locs[:len(p.Locs)], Init: init[:len(p.Init)], Threads: threads[:len(p.Threads)]}
}

// allOf is p with its spare room, as far as roomy has filled it.
func allOf(p api.Prog) api.Prog {
	threads := slices.Clone(p.Threads[:len(p.Threads)+1])
	for t, list := range p.Threads {
		threads[t] = list[:len(list)+2]
	}
	return api.Prog{Locs: p.Locs[:len(p.Locs)+8], Init: p.Init[:len(p.Init)+4], Threads: threads}
}

// Rule 3: neither a program nor a row that is handed in is changed, nor the room
// behind them.
func Test17_3NothingHandedInIsChanged(t *testing.T) {
	r := rand.New(rand.NewSource(177))
	for round := range 500 {
		p, m := ready(t, anyTest(r, 4, 6)), models[round%3]
		given := roomy(p)
		before := cloned(allOf(given))
		full := append(anyRow(r, p, m, r.Intn(30), 20), 71, 72, 73)
		row := full[:len(full)-3]
		was := slices.Clone(full)
		Run(given, m, row)
		Final(given, m, row)
		Maximal(given, m, row)
		Text(row)
		First(given, m)
		Lazy(given, m)
		if !reflect.DeepEqual(cloned(allOf(given)), before) || !slices.Equal(full, was) {
			t.Fatalf("%v was %v, %v was %v", allOf(given), before, full, was)
		}
	}
}

// Rule 3: what is answered is new memory, its spare room too, and shares none with
// what was handed in: whoever writes into it changes nothing that is told again.
func Test17_3AnswersAreNewMemory(t *testing.T) {
	r := rand.New(rand.NewSource(178))
	spoil := func(l []int) {
		l = l[:cap(l)]
		for at := range l {
			l[at] = 77
		}
	}
	for round := range 500 {
		p, m := ready(t, anyTest(r, 4, 6)), models[round%3]
		given, row := cloned(p), Lazy(p, m)
		first, kept := slices.Clone(First(p, m)), slices.Clone(row)
		steps, _, _ := Run(given, m, row)
		told := slices.Clone(steps)
		other, _, _ := Run(given, m, row)
		other = other[:cap(other)]
		for at := range other {
			other[at] = api.Step{Pick: 9, T: 9, Kind: 9, Loc: 9, R: 9, W: 9, From: 9}
		}
		spoil(First(given, m))
		spoil(Lazy(given, m))
		s := Text(row)
		parsed, _ := Parse(s)
		spoil(parsed)
		again, ok := Parse(s)
		if !ok || !slices.Equal(again, kept) || !slices.Equal(row, kept) || !slices.Equal(steps, told) || !reflect.DeepEqual(given, p) {
			t.Fatalf("%v, model %d: %v %v %v", p, m, row, again, steps)
		}
		if !slices.Equal(First(given, m), first) || !slices.Equal(Lazy(given, m), kept) {
			t.Fatalf("%v, model %d: another First or Lazy", p, m)
		}
		hold(t, p, m, row)
		spoil(row)
		if Text(again) != s || !slices.Equal(steps, told) {
			t.Fatalf("%v, model %d: a row that was handed in is kept", p, m)
		}
	}
}
