package rel

import (
	"math"
	"math/rand"
	"slices"
	"testing"

	"jacquard/set"
)

const all = set.Set(math.MaxUint64)

// sizes are the edges of N and some between them.
var sizes = []int{0, 1, 2, 3, 5, 31, 32, 33, 62, 63, 64}

// strangers are numbers of no Rel. Among them are those that are 0, 5 or 63
// modulo 64, and those that are so when they are cut to 32 bits.
var strangers = []int{-1, -5, -59, -63, -64, -65, 64, 65, 69, 127, 128, 1 << 32, -1 << 32, 1<<32 + 5, math.MinInt, math.MinInt + 1, math.MaxInt, math.MaxInt - 1}

// table is a relation without words: has[a][b] tells if a leads to b.
type table struct {
	n   int
	has [64][64]bool
}

func tableOf(n int, pairs ...[2]int) *table {
	m := &table{n: n}
	for _, p := range pairs {
		m.has[p[0]][p[1]] = true
	}
	return m
}

// fill makes a table whose pairs are told one by one.
func fill(n int, has func(a, b int) bool) *table {
	m := &table{n: n}
	for a := range n {
		for b := range n {
			m.has[a][b] = has(a, b)
		}
	}
	return m
}

func (m *table) pairs() [][2]int {
	var list [][2]int
	for a := range m.n {
		for b := range m.n {
			if m.has[a][b] {
				list = append(list, [2]int{a, b})
			}
		}
	}
	return list
}

func (m *table) rel() Rel {
	return relOf(m.n, m.pairs()...)
}

func relOf(n int, pairs ...[2]int) Rel {
	r := New(n)
	for _, p := range pairs {
		r = r.Add(p[0], p[1])
	}
	return r
}

func (m *table) union(o *table) *table {
	return fill(min(m.n, o.n), func(a, b int) bool { return m.has[a][b] || o.has[a][b] })
}

func (m *table) minus(o *table) *table {
	return fill(min(m.n, o.n), func(a, b int) bool { return m.has[a][b] && !o.has[a][b] })
}

func (m *table) meet(o *table) *table {
	return fill(min(m.n, o.n), func(a, b int) bool { return m.has[a][b] && o.has[a][b] })
}

func (m *table) then(o *table) *table {
	n := min(m.n, o.n)
	return fill(n, func(a, c int) bool {
		for b := range n {
			if m.has[a][b] && o.has[b][c] {
				return true
			}
		}
		return false
	})
}

func (m *table) inverse() *table {
	return fill(m.n, func(a, b int) bool { return m.has[b][a] })
}

// closure walks from each number to wherever it can come.
func (m *table) closure() *table {
	closed := &table{n: m.n}
	for a := range m.n {
		work := []int{a}
		for len(work) > 0 {
			from := work[0]
			work = work[1:]
			for b := range m.n {
				if m.has[from][b] && !closed.has[a][b] {
					closed.has[a][b] = true
					work = append(work, b)
				}
			}
		}
	}
	return closed
}

// acyclic takes away, again and again, a number that nobody left leads to.
func (m *table) acyclic() bool {
	gone := make([]bool, m.n)
	led := func(b int) bool {
		for a := range m.n {
			if !gone[a] && m.has[a][b] {
				return true
			}
		}
		return false
	}
	for range m.n {
		for b := range m.n {
			gone[b] = gone[b] || !led(b)
		}
	}
	return !slices.Contains(gone, false)
}

func (m *table) keep(s set.Set) *table {
	in := s.List()
	return fill(m.n, func(a, b int) bool {
		return m.has[a][b] && slices.Contains(in, a) && slices.Contains(in, b)
	})
}

// hold asks r for its N and each of its pairs in three ways.
func hold(t *testing.T, call string, r Rel, want *table) {
	t.Helper()
	if r.N() != want.n {
		t.Fatalf("%s: over %d, want %d", call, r.N(), want.n)
	}
	if got := r.Pairs(); !slices.Equal(got, want.pairs()) {
		t.Fatalf("%s: %v, want %v", call, got, want.pairs())
	}
	for a := range want.n {
		row := r.Row(a)
		for b := range 64 {
			if r.Has(a, b) != want.has[a][b] || row.Has(b) != want.has[a][b] {
				t.Fatalf("%s: %d to %d is %v, in the row %v", call, a, b, r.Has(a, b), row.Has(b))
			}
		}
	}
}

func holdPairs(t *testing.T, call string, r Rel, n int, pairs ...[2]int) {
	t.Helper()
	hold(t, call, r, tableOf(n, pairs...))
}

func chain(n int) *table {
	return fill(n, func(a, b int) bool { return b == a+1 })
}

// ring leads through all numbers and back, in steps of one.
func ring(n int) *table {
	return fill(n, func(a, b int) bool { return b == (a+1)%n })
}

func full(n int) *table {
	return fill(n, func(a, b int) bool { return true })
}

func same(n int) *table {
	return fill(n, func(a, b int) bool { return a == b })
}

// mixed has about one in sparse of all pairs.
func mixed(source *rand.Rand, n, sparse int) *table {
	return fill(n, func(a, b int) bool { return source.Intn(sparse) == 0 })
}

// shuffled is m with its numbers named anew.
func shuffled(source *rand.Rand, m *table) *table {
	name := source.Perm(m.n)
	return fill(m.n, func(a, b int) bool { return m.has[name[a]][name[b]] })
}

// someTables has edges and mixed ones over each of the sizes.
func someTables(seed int64) []*table {
	source := rand.New(rand.NewSource(seed))
	var list []*table
	for _, n := range sizes {
		list = append(list, tableOf(n), full(n), same(n), chain(n), ring(n), chain(n).inverse(), shuffled(source, chain(n)), shuffled(source, ring(n)))
		for _, sparse := range []int{2, 8, 40, 200} {
			list = append(list, mixed(source, n, sparse))
		}
		// A mixed one without cycles: all lead up, by names that are shuffled.
		up := mixed(source, n, 5)
		list = append(list, shuffled(source, fill(n, func(a, b int) bool { return a < b && up.has[a][b] })))
	}
	return list
}

// tinyTables has every relation over 0, 1, 2 and 3 numbers.
func tinyTables() []*table {
	var list []*table
	for n := range 4 {
		for word := range 1 << (n * n) {
			list = append(list, fill(n, func(a, b int) bool { return word>>(a*n+b)&1 == 1 }))
		}
	}
	return list
}

func Test8_1New(t *testing.T) {
	for n := range 65 {
		hold(t, "New", New(n), tableOf(n))
	}
	for _, n := range strangers {
		want := 0
		if n > 0 {
			want = 64
		}
		hold(t, "New of a number that is out of bounds", New(n), tableOf(want))
	}
	if New(-1) != New(0) || New(math.MinInt) != New(0) || New(65) != New(64) || New(math.MaxInt) != New(64) {
		t.Error("bounds")
	}
	if New(63) == New(64) || New(0) == New(1) {
		t.Error("Rels over other numbers are the same")
	}
}

func Test8_1Add(t *testing.T) {
	r := New(4)
	holdPairs(t, "none", r, 4)
	r = r.Add(0, 1)
	holdPairs(t, "one", r, 4, [2]int{0, 1})
	r = r.Add(3, 2).Add(0, 3).Add(2, 0)
	holdPairs(t, "some", r, 4, [2]int{0, 1}, [2]int{0, 3}, [2]int{2, 0}, [2]int{3, 2})
	for _, n := range sizes {
		hold(t, "all", full(n).rel(), full(n))
		if n > 0 {
			last := n - 1
			holdPairs(t, "the least with itself", New(n).Add(0, 0), n, [2]int{0, 0})
			holdPairs(t, "the greatest with itself", New(n).Add(last, last), n, [2]int{last, last})
			holdPairs(t, "the least to the greatest", New(n).Add(0, last), n, [2]int{0, last})
			holdPairs(t, "the greatest to the least", New(n).Add(last, 0), n, [2]int{last, 0})
		}
	}
}

func Test8_1AddTheSameTwice(t *testing.T) {
	r := relOf(5, [2]int{1, 4}, [2]int{2, 2})
	if r.Add(1, 4) != r || r.Add(2, 2) != r || r.Add(2, 2).Add(1, 4).Add(2, 2) != r {
		t.Error("a pair that was there")
	}
	for _, n := range sizes {
		r := full(n).rel()
		for _, p := range r.Pairs() {
			if r.Add(p[0], p[1]) != r {
				t.Fatalf("%v of all over %d", p, n)
			}
		}
	}
}

// beside is the strangers, and the numbers that are beyond n though below 64.
func beside(n int) []int {
	list := slices.Clone(strangers)
	for i := n; i < 64; i++ {
		list = append(list, i)
	}
	return list
}

func Test8_1OfNumbersThatAreNone(t *testing.T) {
	for _, n := range sizes {
		for _, r := range []Rel{New(n), full(n).rel(), chain(n).rel()} {
			for _, i := range beside(n) {
				if r.Row(i) != 0 {
					t.Errorf("over %d: row of %d: %v", n, i, r.Row(i).List())
				}
				for _, j := range append(beside(n), 0, n-1, n/2) {
					if r.Has(i, j) || r.Has(j, i) {
						t.Fatalf("over %d has %d and %d", n, i, j)
					}
					if r.Add(i, j) != r || r.Add(j, i) != r {
						t.Fatalf("over %d added %d and %d", n, i, j)
					}
				}
			}
		}
	}
}

func Test8_1Row(t *testing.T) {
	r := relOf(64, [2]int{0, 0}, [2]int{0, 63}, [2]int{63, 5}, [2]int{7, 6}, [2]int{7, 8}, [2]int{7, 7})
	for a, want := range map[int]set.Set{0: set.Of(0, 63), 63: set.Of(5), 7: set.Of(6, 7, 8), 6: 0, 62: 0} {
		if r.Row(a) != want {
			t.Errorf("row of %d: %v", a, r.Row(a).List())
		}
	}
	for _, n := range sizes {
		for a := range n {
			if got := full(n).rel().Row(a); got != set.Upto(n) {
				t.Errorf("of all over %d, row of %d: %v", n, a, got.List())
			}
		}
	}
}

func Test8_1OfTwoByHand(t *testing.T) {
	r := relOf(4, [2]int{0, 1}, [2]int{1, 2}, [2]int{3, 3})
	o := relOf(3, [2]int{0, 1}, [2]int{0, 2}, [2]int{2, 0})
	holdPairs(t, "r or o", r.Union(o), 3, [2]int{0, 1}, [2]int{0, 2}, [2]int{1, 2}, [2]int{2, 0})
	holdPairs(t, "o or r", o.Union(r), 3, [2]int{0, 1}, [2]int{0, 2}, [2]int{1, 2}, [2]int{2, 0})
	holdPairs(t, "r but o", r.Minus(o), 3, [2]int{1, 2})
	holdPairs(t, "o but r", o.Minus(r), 3, [2]int{0, 2}, [2]int{2, 0})
	holdPairs(t, "both", r.Meet(o), 3, [2]int{0, 1})
	holdPairs(t, "r then o", r.Then(o), 3, [2]int{1, 0})
	holdPairs(t, "o then r", o.Then(r), 3, [2]int{0, 2}, [2]int{2, 1})
	holdPairs(t, "r then r", r.Then(r), 4, [2]int{0, 2}, [2]int{3, 3})
	holdPairs(t, "none or none", New(2).Union(New(2)), 2)
}

// Test8_1ThenTakesTwoSteps has a pair that leads on to what was just reached.
func Test8_1ThenTakesTwoSteps(t *testing.T) {
	for _, n := range []int{3, 5, 63, 64} {
		for _, m := range []*table{chain(n), ring(n), chain(n).inverse()} {
			r := m.rel()
			hold(t, "twice", r.Then(r), fill(n, func(a, c int) bool {
				return slices.ContainsFunc(m.pairs(), func(p [2]int) bool { return p[0] == a && m.has[p[1]][c] })
			}))
		}
	}
}

func Test8_1OfUnlikeN(t *testing.T) {
	for _, n := range sizes {
		for _, m := range sizes {
			less := min(n, m)
			r, o := full(n).rel(), full(m).rel()
			hold(t, "all or all", r.Union(o), full(less))
			hold(t, "all but all", r.Minus(o), tableOf(less))
			hold(t, "all but none", r.Minus(New(m)), full(less))
			hold(t, "all and all", r.Meet(o), full(less))
			hold(t, "all then all", r.Then(o), full(less))
			hold(t, "none or all", New(n).Union(o), full(less))
		}
	}
	// The way leads over a number that the lesser one has not.
	holdPairs(t, "a stop beyond", relOf(4, [2]int{0, 3}).Then(relOf(2, [2]int{1, 0})), 2)
	holdPairs(t, "an end beyond", relOf(2, [2]int{0, 1}).Then(relOf(4, [2]int{1, 3}, [2]int{1, 0})), 2, [2]int{0, 0})
	holdPairs(t, "a beginning beyond", relOf(4, [2]int{3, 1}, [2]int{1, 0}).Then(relOf(2, [2]int{1, 1}, [2]int{0, 0})), 2, [2]int{1, 0})
}

func holdTwo(t *testing.T, m, k *table) {
	t.Helper()
	r, o := m.rel(), k.rel()
	hold(t, "Union", r.Union(o), m.union(k))
	hold(t, "Minus", r.Minus(o), m.minus(k))
	hold(t, "Meet", r.Meet(o), m.meet(k))
	hold(t, "Then", r.Then(o), m.then(k))
	hold(t, "the first afterwards", r, m)
	hold(t, "the second afterwards", o, k)
}

func Test8_1OfAnyTwo(t *testing.T) {
	tiny := tinyTables()
	source := rand.New(rand.NewSource(81))
	for i := range tiny {
		for range 40 {
			holdTwo(t, tiny[i], tiny[source.Intn(len(tiny))])
		}
	}
	list := someTables(82)
	for range 400 {
		holdTwo(t, list[source.Intn(len(list))], list[source.Intn(len(list))])
	}
}

func holdOne(t *testing.T, m *table) {
	t.Helper()
	r := m.rel()
	hold(t, "as it was made", r, m)
	hold(t, "Inverse", r.Inverse(), m.inverse())
	hold(t, "Closure", r.Closure(), m.closure())
	if r.Acyclic() != m.acyclic() {
		t.Fatalf("%v over %d: acyclic %v", m.pairs(), m.n, r.Acyclic())
	}
	hold(t, "afterwards", r, m)
}

func Test8_1OfAnyOne(t *testing.T) {
	for _, m := range append(tinyTables(), someTables(83)...) {
		holdOne(t, m)
	}
}

func Test8_1Inverse(t *testing.T) {
	r := relOf(64, [2]int{0, 63}, [2]int{5, 5}, [2]int{7, 2})
	holdPairs(t, "the other way round", r.Inverse(), 64, [2]int{2, 7}, [2]int{5, 5}, [2]int{63, 0})
	for _, n := range sizes {
		hold(t, "of none", New(n).Inverse(), tableOf(n))
		hold(t, "of all", full(n).rel().Inverse(), full(n))
	}
}

func Test8_1Closure(t *testing.T) {
	holdPairs(t, "the example", relOf(3, [2]int{0, 1}, [2]int{1, 2}).Closure(), 3, [2]int{0, 1}, [2]int{0, 2}, [2]int{1, 2})
	holdPairs(t, "one pair leads not to itself", relOf(3, [2]int{0, 1}).Closure(), 3, [2]int{0, 1})
	holdPairs(t, "one with itself", relOf(3, [2]int{1, 1}).Closure(), 3, [2]int{1, 1})
	holdPairs(t, "two that lead to each other", relOf(3, [2]int{0, 2}, [2]int{2, 0}).Closure(), 3, [2]int{0, 0}, [2]int{0, 2}, [2]int{2, 0}, [2]int{2, 2})
	holdPairs(t, "down and up again", relOf(4, [2]int{3, 0}, [2]int{0, 2}, [2]int{2, 1}).Closure(), 4, [2]int{0, 1}, [2]int{0, 2}, [2]int{2, 1}, [2]int{3, 0}, [2]int{3, 1}, [2]int{3, 2})
}

func Test8_1ClosureOfLongWays(t *testing.T) {
	source := rand.New(rand.NewSource(84))
	for _, n := range sizes {
		hold(t, "a chain", chain(n).rel().Closure(), fill(n, func(a, b int) bool { return a < b }))
		hold(t, "a chain down", chain(n).inverse().rel().Closure(), fill(n, func(a, b int) bool { return a > b }))
		hold(t, "one cycle through all", ring(n).rel().Closure(), full(n))
		hold(t, "one cycle down", ring(n).inverse().rel().Closure(), full(n))
		for range 20 {
			hold(t, "one cycle, shuffled", shuffled(source, ring(n)).rel().Closure(), full(n))
		}
	}
}

func Test8_1Acyclic(t *testing.T) {
	for _, n := range sizes {
		if !New(n).Acyclic() || !chain(n).rel().Acyclic() || !chain(n).inverse().rel().Acyclic() {
			t.Errorf("over %d: no cycle", n)
		}
		if !fill(n, func(a, b int) bool { return a < b }).rel().Acyclic() {
			t.Errorf("over %d: no cycle in all that lead up", n)
		}
		if n > 0 && (ring(n).rel().Acyclic() || full(n).rel().Acyclic() || same(n).rel().Acyclic()) {
			t.Errorf("over %d: a cycle", n)
		}
		for a := range n {
			if New(n).Add(a, a).Acyclic() {
				t.Errorf("over %d: %d leads to itself", n, a)
			}
			if a > 0 && chain(n).rel().Add(a, a-1).Acyclic() {
				t.Errorf("over %d: a cycle of %d and %d", n, a-1, a)
			}
			if chain(n).rel().Add(n-1, a).Acyclic() {
				t.Errorf("over %d: from the last back to %d", n, a)
			}
		}
	}
}

func Test8_1Pairs(t *testing.T) {
	want := [][2]int{{0, 1}, {0, 63}, {5, 0}, {5, 5}, {5, 9}, {63, 0}, {63, 62}}
	r := New(64)
	for _, i := range []int{4, 6, 0, 3, 5, 1, 2} {
		r = r.Add(want[i][0], want[i][1])
	}
	if got := r.Pairs(); !slices.Equal(got, want) {
		t.Errorf("%v", got)
	}
	for _, n := range sizes {
		if len(New(n).Pairs()) != 0 || len(full(n).rel().Pairs()) != n*n {
			t.Errorf("over %d: %d of none, %d of all", n, len(New(n).Pairs()), len(full(n).rel().Pairs()))
		}
	}
}

func Test8_1PairsIsNewMemory(t *testing.T) {
	want := [][2]int{{0, 1}, {0, 4}, {2, 2}}
	r := relOf(5, want...)
	first, second := r.Pairs(), r.Pairs()
	for i := range first[:cap(first)] {
		first[:cap(first)][i] = [2]int{-9, -9}
	}
	if !slices.Equal(second, want) || !slices.Equal(r.Pairs(), want) {
		t.Errorf("%v, %v", second, r.Pairs())
	}
}

func Test8_1Keep(t *testing.T) {
	r := relOf(5, [2]int{0, 1}, [2]int{1, 0}, [2]int{1, 4}, [2]int{2, 2}, [2]int{4, 3})
	holdPairs(t, "of two", r.Keep(set.Of(0, 1)), 5, [2]int{0, 1}, [2]int{1, 0})
	holdPairs(t, "of three", r.Keep(set.Of(1, 2, 4)), 5, [2]int{1, 4}, [2]int{2, 2})
	holdPairs(t, "of one", r.Keep(set.Of(2)), 5, [2]int{2, 2})
	holdPairs(t, "of one that leads not to itself", r.Keep(set.Of(4)), 5)
	holdPairs(t, "of the empty Set", r.Keep(0), 5)
	holdPairs(t, "of numbers that are not below N", r.Keep(set.Of(5, 6, 63)), 5)
	holdPairs(t, "of some that are and some that are not", r.Keep(set.Of(4, 5, 3, 63)), 5, [2]int{4, 3})
	if r.Keep(all) != r || r.Keep(set.Upto(5)) != r {
		t.Error("of all")
	}
	for _, n := range sizes {
		hold(t, "all of all", full(n).rel().Keep(all), full(n))
		hold(t, "none of all", full(n).rel().Keep(0), tableOf(n))
		hold(t, "those beyond", full(n).rel().Keep(all&^set.Upto(n)), tableOf(n))
	}
}

func Test8_1KeepOfAny(t *testing.T) {
	source := rand.New(rand.NewSource(85))
	for _, m := range append(tinyTables(), someTables(86)...) {
		for _, s := range []set.Set{0, 1, all, 1 << 63, set.Set(source.Uint64()), set.Set(source.Intn(8)), set.Upto(m.n / 2)} {
			r := m.rel()
			hold(t, "Keep", r.Keep(s), m.keep(s))
			hold(t, "afterwards", r, m)
		}
	}
}

func Test8_1NoCallChangesOne(t *testing.T) {
	for _, m := range someTables(87) {
		r, o := m.rel(), ring(40).rel()
		copied, other := r, o
		for a := range m.n {
			r.Add(a, m.n-1-a)
			r.Row(a)
		}
		r.Union(o)
		r.Minus(o)
		r.Meet(o)
		r.Then(o)
		o.Union(r)
		o.Minus(r)
		o.Meet(r)
		o.Then(r)
		r.Inverse()
		r.Closure()
		r.Acyclic()
		r.Keep(set.Of(0, 3))
		hold(t, "the one it was called on", r, m)
		hold(t, "its copy", copied, m)
		hold(t, "the one that was handed in", o, ring(40))
		hold(t, "the copy of that", other, ring(40))
		if r != copied || o != other {
			t.Fatal("no longer the same")
		}
	}
}

func Test8_1AnAnswerStaysWhatItIs(t *testing.T) {
	r := relOf(6, [2]int{0, 1}, [2]int{1, 2})
	none := New(6)
	for _, made := range []Rel{r.Union(none), r.Minus(none), r.Meet(r), none.Union(r), r.Keep(all), r.Inverse().Inverse(), r.Add(0, 1), r.Add(9, 9)} {
		grown := made.Add(5, 4)
		holdPairs(t, "grown", grown, 6, [2]int{0, 1}, [2]int{1, 2}, [2]int{5, 4})
		holdPairs(t, "what it was made of", made, 6, [2]int{0, 1}, [2]int{1, 2})
		holdPairs(t, "the first of all", r, 6, [2]int{0, 1}, [2]int{1, 2})
	}
}

func Test8_1AsAKey(t *testing.T) {
	seen := map[Rel]int{}
	for i, m := range tinyTables() {
		seen[m.rel()] = i
	}
	if len(seen) != 1+2+16+512 {
		t.Errorf("%d keys", len(seen))
	}
	source := rand.New(rand.NewSource(88))
	for i, m := range tinyTables() {
		pairs := m.pairs()
		source.Shuffle(len(pairs), func(a, b int) { pairs[a], pairs[b] = pairs[b], pairs[a] })
		if at, ok := seen[relOf(m.n, pairs...)]; !ok || at != i {
			t.Fatalf("%v in another order is another key", pairs)
		}
	}
}

// Test8_1OneKeyOnManyWays makes one Rel out of greater ones: nothing that was
// left out may tell them apart.
func Test8_1OneKeyOnManyWays(t *testing.T) {
	for _, n := range sizes {
		want := chain(n).rel()
		for _, big := range []int{n, 64} {
			great := full(big).rel()
			for call, r := range map[string]Rel{
				"Meet":    great.Meet(want),
				"Met":     want.Meet(great),
				"Union":   chain(big).rel().Union(New(n)),
				"Minus":   great.Minus(great.Minus(want)),
				"Then":    want.Then(same(big).rel()),
				"Then o":  same(big).rel().Then(want),
				"Inverse": want.Inverse().Inverse(),
				"Keep":    want.Keep(all),
			} {
				if r != want {
					t.Errorf("%s over %d, made of one over %d: another key", call, n, big)
				}
			}
		}
	}
}

func holdSame(t *testing.T, law string, a, b Rel) {
	t.Helper()
	if a != b {
		t.Fatalf("%s: %v over %d, and %v over %d", law, a.Pairs(), a.N(), b.Pairs(), b.N())
	}
}

// holdLaws holds the algebra of three Rels, whatever their N.
func holdLaws(t *testing.T, p, q, r Rel) {
	t.Helper()
	holdSame(t, "a union either way", p.Union(q), q.Union(p))
	holdSame(t, "a meeting either way", p.Meet(q), q.Meet(p))
	holdSame(t, "unions in a row", p.Union(q).Union(r), p.Union(q.Union(r)))
	holdSame(t, "meetings in a row", p.Meet(q).Meet(r), p.Meet(q.Meet(r)))
	holdSame(t, "a meeting of a union", p.Meet(q.Union(r)), p.Meet(q).Union(p.Meet(r)))
	holdSame(t, "a union of a meeting", p.Union(q.Meet(r)), p.Union(q).Meet(p.Union(r)))
	holdSame(t, "two that are taken away", p.Minus(q).Minus(r), p.Minus(q.Union(r)))
	holdSame(t, "what is not taken away", p.Minus(p.Minus(q)), p.Meet(q))
	holdSame(t, "in parts", p.Minus(q).Union(p.Meet(q)), p.Meet(p.Union(q)))
	holdSame(t, "the inverse of a union", p.Union(q).Inverse(), p.Inverse().Union(q.Inverse()))
	holdSame(t, "the inverse of a meeting", p.Meet(q).Inverse(), p.Inverse().Meet(q.Inverse()))
	holdSame(t, "the inverse of what is taken away", p.Minus(q).Inverse(), p.Inverse().Minus(q.Inverse()))
	holdSame(t, "the inverse of Then", p.Then(q).Inverse(), q.Inverse().Then(p.Inverse()))
}

// holdLawsOfThen holds the algebra of three Rels with the same N: of unlike ones
// a stop on the way may be left out on one side alone.
func holdLawsOfThen(t *testing.T, p, q, r Rel) {
	t.Helper()
	holdSame(t, "Then in a row", p.Then(q).Then(r), p.Then(q.Then(r)))
	holdSame(t, "Then of a union", p.Then(q.Union(r)), p.Then(q).Union(p.Then(r)))
	holdSame(t, "a union's Then", p.Union(q).Then(r), p.Then(r).Union(q.Then(r)))
	holdSame(t, "a union's Closure", p.Union(q).Closure(), p.Closure().Union(q.Closure()).Closure())
	holdSame(t, "each in the union's Closure", p.Closure().Minus(p.Union(q).Closure()), New(p.N()))
	holdSame(t, "what is in both, closed", p.Meet(q).Closure().Minus(p.Closure().Meet(q.Closure())), New(p.N()))
}

// holdLawsOfOne holds the algebra of one Rel and a Set.
func holdLawsOfOne(t *testing.T, r Rel, s set.Set) {
	t.Helper()
	n, c := r.N(), r.Closure()
	holdSame(t, "itself or itself", r.Union(r), r)
	holdSame(t, "itself and itself", r.Meet(r), r)
	holdSame(t, "itself but itself", r.Minus(r), New(n))
	holdSame(t, "twice the other way round", r.Inverse().Inverse(), r)
	holdSame(t, "behind each with itself", same(n).rel().Then(r), r)
	holdSame(t, "ahead of each with itself", r.Then(same(n).rel()), r)
	holdSame(t, "none behind it", r.Then(New(n)), New(n))
	holdSame(t, "one step, or one and more", c, r.Union(r.Then(c)))
	holdSame(t, "more and one step", c, r.Union(c.Then(r)))
	holdSame(t, "closed twice", c.Closure(), c)
	holdSame(t, "closed the other way round", r.Inverse().Closure(), c.Inverse())
	holdSame(t, "kept twice", r.Keep(s).Keep(s), r.Keep(s))
	holdSame(t, "kept, then turned", r.Keep(s).Inverse(), r.Inverse().Keep(s))
	holdSame(t, "kept between", r.Keep(s), same(n).rel().Keep(s).Then(r).Then(same(n).rel().Keep(s)))
	if r.Acyclic() != (c.Meet(same(n).rel()) == New(n)) || r.Acyclic() != r.Inverse().Acyclic() || r.Acyclic() != c.Acyclic() {
		t.Fatalf("%v: acyclic %v", r.Pairs(), r.Acyclic())
	}
}

func Test8_2Laws(t *testing.T) {
	source := rand.New(rand.NewSource(89))
	for _, list := range [][]*table{tinyTables(), someTables(90)} {
		for _, m := range list {
			for range 5 {
				holdLaws(t, m.rel(), list[source.Intn(len(list))].rel(), list[source.Intn(len(list))].rel())
			}
			for _, sparse := range []int{1, 2, 8, 40} {
				holdLawsOfThen(t, m.rel(), mixed(source, m.n, sparse).rel(), mixed(source, m.n, 6).rel())
			}
			holdLawsOfOne(t, m.rel(), set.Set(source.Uint64()))
		}
	}
}

// Test8_2ClosureIsTheLeast looks through every Rel over 3 that holds r and leads
// on wherever it leads: the least of them is the Closure.
func Test8_2ClosureIsTheLeast(t *testing.T) {
	var closed []Rel
	for _, m := range tinyTables() {
		if r := m.rel(); m.n == 3 && r.Then(r).Minus(r) == New(3) {
			closed = append(closed, r)
		}
	}
	for _, m := range tinyTables() {
		if m.n != 3 {
			continue
		}
		r, least := m.rel(), full(3).rel()
		for _, o := range closed {
			if r.Minus(o) == New(3) {
				least = least.Meet(o)
			}
		}
		holdSame(t, "the least", r.Closure(), least)
	}
}

func Test8_3AnyRelAndAnyNumber(t *testing.T) {
	source := rand.New(rand.NewSource(91))
	numbers := slices.Concat(strangers, []int{0, 1, 31, 32, 62, 63})
	for _, n := range append(slices.Clone(strangers), sizes...) {
		r := New(n)
		for range 300 {
			a, b := numbers[source.Intn(len(numbers))], source.Intn(70)-3
			if source.Intn(2) == 0 {
				a, b = b, a
			}
			inside := 0 <= a && a < r.N() && 0 <= b && b < r.N()
			before := len(r.Pairs())
			if r.Has(a, b) {
				before--
			}
			r = r.Add(a, b)
			if r.Has(a, b) != inside || r.Row(a).Has(b) != inside || inside && len(r.Pairs()) != before+1 {
				t.Fatalf("over %d: %d to %d", n, a, b)
			}
		}
		for _, m := range strangers {
			o := New(m)
			if got := r.Union(o).N(); got != min(r.N(), o.N()) {
				t.Fatalf("over %d and %d: over %d", n, m, got)
			}
			holdSame(t, "none taken away", r.Minus(o), r.Union(o))
			holdSame(t, "none in both", r.Meet(o), r.Then(o))
			r.Keep(set.Set(m)).Closure().Inverse().Acyclic()
		}
	}
}

// Test8_3ManyClosures would not end soon if a Closure went through all ways.
func Test8_3ManyClosures(t *testing.T) {
	everything := full(64).rel()
	up := fill(64, func(a, b int) bool { return a < b }).rel()
	for range 2000 {
		if everything.Closure() != everything || up.Closure() != up || !up.Acyclic() || everything.Acyclic() {
			t.Fatal("what is closed was changed")
		}
	}
}
