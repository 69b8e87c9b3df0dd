package buf

import (
	"math"
	"math/rand"
	"slices"
	"testing"

	"jacquard/api"
)

// odd are numbers at which places and fields may go wrong: some of them are 0, 1
// or -1 when they are cut to few bits.
var odd = []int{math.MinInt, math.MinInt + 1, -1<<32 - 1, -1 << 32, -256, -65, -64, -24, -2, -1, 0, 1, 2, 3, 4, 5, 7, 8, 23, 24, 25, 63, 64, 255, 256, 259, 1 << 16, 1 << 32, 1<<32 + 1, 1<<32 + 3, math.MaxInt - 1, math.MaxInt}

// Any number as a model, a location, a value and an id.
func Test15_3AnyNumber(t *testing.T) {
	for _, m := range odd {
		for _, loc := range odd {
			for _, n := range odd {
				b, p := New(m), plain{m: m}
				hold(t, b.Drop(loc), p.drop(loc), []int{loc, n})
				b, p = b.Put(loc, int64(n), -n).Put(1, 2, 3).Put(n, int64(loc), loc), p.put(loc, int64(n), -n).put(1, 2, 3).put(n, int64(loc), loc)
				hold(t, b, p, []int{loc, n})
				b, p = b.Drop(loc).Drop(n).Drop(loc), p.drop(loc).drop(n).drop(loc)
				hold(t, b, p, []int{loc, n})
			}
		}
	}
}

// Long rows of calls with odd numbers, far beyond what has room.
func Test15_3AnyRowOfCalls(t *testing.T) {
	r := rand.New(rand.NewSource(154))
	some := func() int {
		if r.Intn(3) > 0 {
			return r.Intn(4)
		}
		return odd[r.Intn(len(odd))]
	}
	full := 0
	for round := range 300 {
		m := some()
		if round%3 > 0 {
			m = models[round%3-1]
		}
		b, p := New(m), plain{m: m}
		for range 300 {
			loc, n := some(), some()
			if r.Intn(3) > 0 {
				b, p = b.Put(loc, int64(n), loc), p.put(loc, int64(n), loc)
			} else {
				b, p = b.Drop(loc), p.drop(loc)
			}
			hold(t, b, p, []int{loc, n})
			if b.Len() == 24 {
				full++
			}
		}
	}
	if full < 1000 {
		t.Error(full)
	}
}

// A Buf that New did not make: calls answer and end.
func Test15_3NotOfNew(t *testing.T) {
	var b Buf
	kept := b
	for _, loc := range odd {
		for _, c := range []Buf{b, b.Put(loc, 5, 7), b.Drop(loc), b.Put(loc, 5, 7).Drop(loc), b.Drop(loc).Put(0, 1, 1)} {
			hold(t, c, plain{}, []int{loc, 0, 3})
		}
	}
	if b != kept {
		t.Error(b)
	}
	fresh := new([3]Buf)
	hold(t, fresh[1].Put(1, 1, 1), plain{}, around)
}

// Rule 3: a List is new memory, its spare room too.
func Test15_3ListIsNewMemory(t *testing.T) {
	for _, m := range models {
		for _, locs := range [][]int{{0}, {0, 1, 0}, {3, 3, 3}, slices.Repeat([]int{0, 1, 2, 3}, 6), slices.Repeat([]int{2}, 24)} {
			b, p := filled(m, locs...)
			less, more := b.Drop(locs[0]), b.Put(1, 5, 5)
			for _, loc := range around {
				first, second := b.List(loc), b.List(loc)
				want := slices.Clone(second)
				for at := range first[:cap(first)] {
					first[:cap(first)][at] = api.Entry{Loc: 9, Value: 9, ID: 9}
				}
				if !slices.Equal(second, want) {
					t.Fatalf("model %d: Lists share memory", m)
				}
				hold(t, b, p, around)
				hold(t, less, p.drop(locs[0]), around)
				hold(t, more, p.put(1, 5, 5), around)
				hold(t, b.Put(0, 1, 1).Drop(0), p.put(0, 1, 1).drop(0), around)
			}
		}
	}
}

// Nothing is kept from call to call: the same calls answer the same, whatever was
// called between.
func Test15_3NothingIsKept(t *testing.T) {
	for _, m := range models {
		b, p := filled(m, 0, 1, 2, 3, 0)
		for _, n := range odd {
			New(n).Put(n, 1, 1).Put(1, int64(n), n).Drop(n)
			filled(m, 3, 2, 1)
			again, _ := filled(m, 0, 1, 2, 3, 0)
			if again != b {
				t.Fatalf("model %d: %v is not %v", m, again, b)
			}
			hold(t, again, p, around)
		}
	}
}
