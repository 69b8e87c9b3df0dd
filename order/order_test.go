package order

import (
	"math"
	"math/rand"
	"slices"
	"testing"

	"jacquard/rel"
)

// sizes are the edges of N and some between them.
var sizes = []int{0, 1, 2, 3, 5, 31, 32, 33, 62, 63, 64}

// strangers are numbers that no order has. Among them are those that are 0, 1 or
// 63 modulo 64, and those that are so when they are cut to 32 bits.
var strangers = []int{-1, -2, -63, -64, -65, 64, 65, 127, 128, 1 << 32, 1<<32 + 1, -1 << 32, math.MinInt, math.MinInt + 1, math.MaxInt, math.MaxInt - 1}

func relOf(n int, pairs ...[2]int) rel.Rel {
	r := rel.New(n)
	for _, p := range pairs {
		r = r.Add(p[0], p[1])
	}
	return r
}

// fill makes a relation whose pairs are told one by one.
func fill(n int, has func(a, b int) bool) rel.Rel {
	r := rel.New(n)
	for a := range n {
		for b := range n {
			if has(a, b) {
				r = r.Add(a, b)
			}
		}
	}
	return r
}

func chain(n int) rel.Rel {
	return fill(n, func(a, b int) bool { return b == a+1 })
}

// ring leads through all numbers and back.
func ring(n int) rel.Rel {
	return fill(n, func(a, b int) bool { return b == (a+1)%n })
}

func rising(n int) rel.Rel {
	return fill(n, func(a, b int) bool { return a < b })
}

// mixed has about one in sparse of the pairs that lead from a number to one that
// stands behind it in a row by chance: it has no cycle.
func mixed(source *rand.Rand, n, sparse int) rel.Rel {
	at := source.Perm(n)
	return fill(n, func(a, b int) bool { return at[a] < at[b] && source.Intn(sparse) == 0 })
}

func upto(n int) []int {
	row := make([]int, n)
	for i := range row {
		row[i] = i
	}
	return row
}

func downfrom(n int) []int {
	row := upto(n)
	slices.Reverse(row)
	return row
}

// keeps asks for each two places of a row, without words.
func keeps(r rel.Rel, row []int) bool {
	sorted := slices.Clone(row)
	slices.Sort(sorted)
	if !slices.Equal(sorted, upto(r.N())) {
		return false
	}
	for i, b := range row {
		for _, a := range row[i:] {
			if r.Has(a, b) {
				return false
			}
		}
	}
	return true
}

// permutations has all rows of 0 to n less one, as rows stand.
func permutations(n int) [][]int {
	rows := [][]int{{}}
	for range n {
		var longer [][]int
		for _, row := range rows {
			for a := range n {
				if !slices.Contains(row, a) {
					longer = append(longer, append(slices.Clone(row), a))
				}
			}
		}
		rows = longer
	}
	return rows
}

// orders sifts all rows: a second reckoning.
func orders(r rel.Rel, rows [][]int) [][]int {
	var kept [][]int
	for _, row := range rows {
		if keeps(r, row) {
			kept = append(kept, row)
		}
	}
	return kept
}

// rankOf is greater than any rank where rank ends.
func rankOf(rank []int, a int) (int, bool) {
	if a < len(rank) {
		return rank[a], false
	}
	return 0, true
}

// sooner tells if a is asked for ahead of b.
func sooner(rank []int, a, b int) bool {
	x, xEnd := rankOf(rank, a)
	y, yEnd := rankOf(rank, b)
	if xEnd != yEnd {
		return yEnd
	}
	return x < y || x == y && a < b
}

// greedy is a second reckoning: among all orders the least one, if the numbers
// themselves stood as their ranks do.
func greedy(rank []int, rows [][]int) []int {
	return slices.MinFunc(rows, func(p, q []int) int {
		for i := range p {
			if p[i] != q[i] {
				if sooner(rank, p[i], q[i]) {
					return -1
				}
				return 1
			}
		}
		return 0
	})
}

func sameRows(a, b [][]int) bool {
	return slices.EqualFunc(a, b, func(p, q []int) bool { return slices.Equal(p, q) })
}

func holdAll(t *testing.T, r rel.Rel, want [][]int) {
	t.Helper()
	n := len(want)
	for _, most := range []int{0, 1, n - 1, n, n + 1, n / 2, 99_999, 100_000, 100_001, math.MaxInt, -1, math.MinInt} {
		cut := min(max(most, 0), n)
		if got := All(r, most); !sameRows(got, want[:cut]) {
			t.Fatalf("%v over %d, most %d: %v, want %v", r.Pairs(), r.N(), most, got, want[:cut])
		}
		if got := Count(r, most); got != cut {
			t.Fatalf("%v over %d, most %d: count %d, want %d", r.Pairs(), r.N(), most, got, cut)
		}
	}
	first, ok := First(r)
	if ok != (n > 0) || !ok && len(first) != 0 || ok && !slices.Equal(first, want[0]) {
		t.Fatalf("%v over %d: first %v, %v", r.Pairs(), r.N(), first, ok)
	}
}

// holdNone holds r as one that has no order.
func holdNone(t *testing.T, r rel.Rel, rows ...[]int) {
	t.Helper()
	holdAll(t, r, nil)
	for _, rank := range [][]int{nil, upto(r.N()), downfrom(r.N()), {7}, {math.MinInt, math.MaxInt}} {
		if got, ok := Greedy(r, rank); ok || len(got) != 0 {
			t.Errorf("%v over %d by %v: %v, %v", r.Pairs(), r.N(), rank, got, ok)
		}
	}
	for _, row := range append(rows, nil, upto(r.N()), downfrom(r.N())) {
		if Keeps(r, row) {
			t.Errorf("%v over %d: %v", r.Pairs(), r.N(), row)
		}
	}
}

func holdGreedy(t *testing.T, r rel.Rel, rank, want []int) {
	t.Helper()
	if got, ok := Greedy(r, rank); !ok || !slices.Equal(got, want) {
		t.Errorf("%v over %d by %v: %v, %v, want %v", r.Pairs(), r.N(), rank, got, ok, want)
	}
}

func Test9_1AllOfFew(t *testing.T) {
	for _, x := range []struct {
		r    rel.Rel
		want [][]int
	}{
		{rel.New(0), [][]int{{}}},
		{rel.New(1), [][]int{{0}}},
		{rel.New(2), [][]int{{0, 1}, {1, 0}}},
		{relOf(2, [2]int{0, 1}), [][]int{{0, 1}}},
		{relOf(2, [2]int{1, 0}), [][]int{{1, 0}}},
		{rel.New(3), [][]int{{0, 1, 2}, {0, 2, 1}, {1, 0, 2}, {1, 2, 0}, {2, 0, 1}, {2, 1, 0}}},
		{relOf(3, [2]int{0, 1}), [][]int{{0, 1, 2}, {0, 2, 1}, {2, 0, 1}}},
		{relOf(3, [2]int{2, 0}), [][]int{{1, 2, 0}, {2, 0, 1}, {2, 1, 0}}},
		{relOf(3, [2]int{0, 2}, [2]int{1, 2}), [][]int{{0, 1, 2}, {1, 0, 2}}},
		{relOf(3, [2]int{1, 0}, [2]int{1, 2}), [][]int{{1, 0, 2}, {1, 2, 0}}},
		{chain(3), [][]int{{0, 1, 2}}},
		{rising(3), [][]int{{0, 1, 2}}},
		{chain(3).Inverse(), [][]int{{2, 1, 0}}},
		{relOf(4, [2]int{3, 0}, [2]int{2, 1}), [][]int{{2, 1, 3, 0}, {2, 3, 0, 1}, {2, 3, 1, 0}, {3, 0, 2, 1}, {3, 2, 0, 1}, {3, 2, 1, 0}}},
		{relOf(4, [2]int{0, 1}, [2]int{2, 3}), [][]int{{0, 1, 2, 3}, {0, 2, 1, 3}, {0, 2, 3, 1}, {2, 0, 1, 3}, {2, 0, 3, 1}, {2, 3, 0, 1}}},
	} {
		holdAll(t, x.r, x.want)
		for _, row := range permutations(x.r.N()) {
			if Keeps(x.r, row) != slices.ContainsFunc(x.want, func(o []int) bool { return slices.Equal(o, row) }) {
				t.Errorf("%v: %v", x.r.Pairs(), row)
			}
		}
	}
}

// Test9_1EachOverFew goes through every relation over up to 3 numbers, and many
// over 4 to 6, with each row and several ranks.
func Test9_1EachOverFew(t *testing.T) {
	source := rand.New(rand.NewSource(91))
	for n := range 7 {
		rows := permutations(n)
		var list []rel.Rel
		for word := range 1 << min(n*n, 9) {
			list = append(list, fill(n, func(a, b int) bool { return word>>(a*n+b)&1 == 1 }))
		}
		for i := range 120 {
			list = append(list, mixed(source, n, 1+i%9))
		}
		for _, r := range list {
			holdFew(t, source, r, rows)
		}
	}
}

func holdFew(t *testing.T, source *rand.Rand, r rel.Rel, rows [][]int) {
	t.Helper()
	want := orders(r, rows)
	if len(want) == 0 {
		holdNone(t, r, rows[source.Intn(len(rows))])
		return
	}
	holdAll(t, r, want)
	for _, row := range rows {
		if Keeps(r, row) != keeps(r, row) {
			t.Fatalf("%v over %d: %v", r.Pairs(), r.N(), row)
		}
	}
	for range 6 {
		rank := make([]int, source.Intn(r.N()+3))
		for i := range rank {
			rank[i] = source.Intn(5) - 2
		}
		holdGreedy(t, r, rank, greedy(rank, want))
	}
}

// Test9_1OrdersOfTheClosure: what must stand ahead over a stop must so anyway.
func Test9_1OrdersOfTheClosure(t *testing.T) {
	source := rand.New(rand.NewSource(92))
	for _, n := range sizes {
		for _, sparse := range []int{1, 3, 20} {
			r := mixed(source, n, sparse)
			holdRowsAlike(t, r, r.Closure(), source.Perm(n))
		}
	}
}

func holdRowsAlike(t *testing.T, r, o rel.Rel, rank []int) {
	t.Helper()
	if !sameRows(All(r, 300), All(o, 300)) || Count(r, 3000) != Count(o, 3000) {
		t.Fatalf("%v over %d: other orders", r.Pairs(), r.N())
	}
	p, _ := Greedy(r, rank)
	q, _ := Greedy(o, rank)
	if !slices.Equal(p, q) || !keeps(r, p) {
		t.Fatalf("%v over %d by %v: %v and %v", r.Pairs(), r.N(), rank, p, q)
	}
}

func Test9_1ARowAlone(t *testing.T) {
	source := rand.New(rand.NewSource(93))
	for _, n := range sizes {
		name := source.Perm(n)
		at := make([]int, n)
		for i, a := range name {
			at[a] = i
		}
		for r, want := range map[rel.Rel][]int{
			chain(n):           upto(n),
			rising(n):          upto(n),
			chain(n).Inverse(): downfrom(n),
			fill(n, func(a, b int) bool { return at[b] == at[a]+1 }): name,
			fill(n, func(a, b int) bool { return at[a] < at[b] }):    name,
		} {
			holdAll(t, r, [][]int{want})
			for _, rank := range [][]int{nil, name, downfrom(n), make([]int, n)} {
				holdGreedy(t, r, rank, want)
			}
			if !Keeps(r, want) || n > 1 && Keeps(r, append(want[1:n:n], want[0])) {
				t.Errorf("over %d: %v", n, want)
			}
		}
	}
}

// Test9_1NoPairOver64 steps by the rule of all rows: the last place whose number
// is less than one behind it gets the least greater one, the rest rises.
func Test9_1NoPairOver64(t *testing.T) {
	row := upto(64)
	got := All(rel.New(64), 6000)
	if len(got) != 6000 || Count(rel.New(64), 6000) != 6000 {
		t.Fatalf("%d rows, %d", len(got), Count(rel.New(64), 6000))
	}
	for k := range got {
		if !slices.Equal(got[k], row) {
			t.Fatalf("row %d: %v, want %v", k, got[k], row)
		}
		i := len(row) - 2
		for row[i] > row[i+1] {
			i--
		}
		j := len(row) - 1
		for row[j] < row[i] {
			j--
		}
		row[i], row[j] = row[j], row[i]
		slices.Reverse(row[i+1:])
	}
}

// Test9_1FreeNumbersFarApart has most numbers in one chain, so that two orders
// that follow each other are unlike in places that stand far apart.
func Test9_1FreeNumbersFarApart(t *testing.T) {
	for _, n := range []int{2, 5, 33, 63, 64} {
		// The last number stands anywhere: from the end of the row to its front.
		r := fill(n, func(a, b int) bool { return b == a+1 && b < n-1 })
		var want [][]int
		for i := n - 1; i >= 0; i-- {
			want = append(want, slices.Insert(upto(n-1), i, n-1))
		}
		holdAll(t, r, want)
		// The first number stands anywhere: from the front of the row to its end.
		r = fill(n, func(a, b int) bool { return b == a+1 && a > 0 })
		want = nil
		for i := range n {
			want = append(want, slices.Insert(upto(n)[1:], i, 0))
		}
		holdAll(t, r, want)
	}
}

// blocks has k blocks of 5, one behind the other, each of two chains, of 2 and of
// 3 numbers: 10 orders a block.
func blocks(k int) rel.Rel {
	return fill(5*k, func(a, b int) bool {
		if a/5 != b/5 {
			return a < b
		}
		return a+1 == b && b%5 != 2
	})
}

// blockOrders is the orders of blocks(k), block by block.
func blockOrders(k int) [][]int {
	rows := [][]int{{}}
	for block := range k {
		var longer [][]int
		for _, row := range rows {
			for _, part := range orders(blocks(1), permutations(5)) {
				next := slices.Clone(row)
				for _, a := range part {
					next = append(next, 5*block+a)
				}
				longer = append(longer, next)
			}
		}
		rows = longer
	}
	return rows
}

func Test9_1AtTheBoundOfMost(t *testing.T) {
	for k := range 5 {
		holdAll(t, blocks(k), blockOrders(k))
	}
	want := blockOrders(5)
	if len(want) != 100_000 {
		t.Fatalf("%d orders", len(want))
	}
	holdAll(t, blocks(5), want)
}

func Test9_1BeyondTheBoundOfMost(t *testing.T) {
	for _, x := range []struct {
		r     rel.Rel
		count int
	}{{rel.New(8), 40_320}, {rel.New(9), 100_000}, {blocks(6), 100_000}, {rel.New(64), 100_000}, {blocks(12), 100_000}} {
		for _, most := range []int{99_999, 100_000, 100_001, 1 << 32, 1<<32 + 1, 1 << 40, math.MaxInt} {
			want := min(most, x.count)
			if got := Count(x.r, most); got != want {
				t.Errorf("over %d, most %d: %d, want %d", x.r.N(), most, got, want)
			}
		}
		for _, most := range []int{99_999, 100_001, math.MaxInt} {
			want := min(most, x.count)
			if got := All(x.r, most); len(got) != want || !risingRows(got) || !keeps(x.r, got[want-1]) {
				t.Errorf("over %d, most %d: %d rows, want %d", x.r.N(), most, len(got), want)
			}
		}
	}
}

func risingRows(rows [][]int) bool {
	for i := 1; i < len(rows); i++ {
		if slices.Compare(rows[i-1], rows[i]) >= 0 {
			return false
		}
	}
	return true
}

// Test9_1CountOfTwoChains: as many as there are ways to choose the places.
func Test9_1CountOfTwoChains(t *testing.T) {
	ways := [17][17]int{}
	for n := range 17 {
		for k := range 17 {
			ways[n][k] = 1
			if n > 0 && k > 0 {
				ways[n][k] = ways[n-1][k] + ways[n][k-1]
			}
		}
	}
	for n := range 9 {
		for k := range 9 {
			r := fill(n+k, func(a, b int) bool { return b == a+1 && b != n })
			if got := Count(r, 100_000); got != ways[n][k] {
				t.Errorf("%d and %d: %d, want %d", n, k, got, ways[n][k])
			}
		}
	}
}

func Test9_1Cyclic(t *testing.T) {
	for _, n := range sizes[1:] {
		holdNone(t, ring(n))
		holdNone(t, ring(n).Inverse())
		holdNone(t, fill(n, func(a, b int) bool { return true }))
		holdNone(t, fill(n, func(a, b int) bool { return a == b }))
		for _, a := range []int{0, n / 2, n - 1} {
			holdNone(t, rel.New(n).Add(a, a))
			holdNone(t, chain(n).Add(a, a))
		}
		for _, p := range [][2]int{{0, 1}, {0, n - 1}, {n / 2, n - 1}, {n - 2, n - 1}} {
			if p[0] != p[1] && p[0] >= 0 && p[1] < n {
				holdNone(t, relOf(n, p, [2]int{p[1], p[0]}))
				holdNone(t, chain(n).Add(p[1], p[0]))
			}
		}
	}
	holdNone(t, relOf(3, [2]int{0, 1}, [2]int{1, 2}, [2]int{2, 0}), permutations(3)...)
}

func Test9_1First(t *testing.T) {
	for _, x := range []struct {
		r    rel.Rel
		want []int
	}{
		{relOf(4, [2]int{3, 0}, [2]int{2, 1}), []int{2, 1, 3, 0}},
		{relOf(5, [2]int{4, 0}), []int{1, 2, 3, 4, 0}},
		{relOf(5, [2]int{4, 2}, [2]int{2, 0}, [2]int{3, 1}), []int{3, 1, 4, 2, 0}},
		{relOf(64, [2]int{63, 0}, [2]int{63, 1}), slices.Concat(upto(64)[2:], []int{0, 1})},
		{relOf(64, [2]int{40, 0}, [2]int{63, 40}), slices.Concat(upto(40)[1:], upto(64)[41:], []int{40, 0})},
	} {
		if got, ok := First(x.r); !ok || !slices.Equal(got, x.want) {
			t.Errorf("%v: %v, %v", x.r.Pairs(), got, ok)
		}
	}
}

func Test9_1FirstAsAllTellsIt(t *testing.T) {
	source := rand.New(rand.NewSource(94))
	for _, n := range sizes {
		for _, sparse := range []int{1, 2, 10, 60} {
			r := mixed(source, n, sparse)
			first, ok := First(r)
			all := All(r, 1)
			if !ok || len(all) != 1 || !slices.Equal(first, all[0]) || !keeps(r, first) {
				t.Fatalf("%v over %d: %v, %v, %v", r.Pairs(), n, first, ok, all)
			}
		}
	}
}

func Test9_1GreedyByRank(t *testing.T) {
	few, free := relOf(3, [2]int{0, 1}), rel.New(4)
	for _, x := range []struct {
		r          rel.Rel
		rank, want []int
	}{
		{few, []int{0, 1, 2}, []int{0, 1, 2}},
		{few, []int{5, 0, 1}, []int{2, 0, 1}},
		{few, []int{1, 0, 1}, []int{0, 1, 2}},
		{few, []int{5, 9, 7}, []int{0, 2, 1}},
		{few, []int{5, 7, 7}, []int{0, 1, 2}},
		{free, []int{3, 2, 1, 0}, []int{3, 2, 1, 0}},
		{free, []int{7, 7, 7, 7}, []int{0, 1, 2, 3}},
		{free, []int{1, 0, 1, 0}, []int{1, 3, 0, 2}},
		{free, []int{0, -1, -2, -3}, []int{3, 2, 1, 0}},
		{free, []int{1, 0, -1, -1}, []int{2, 3, 1, 0}},
		{free, []int{math.MaxInt, 0, math.MinInt, -1}, []int{2, 3, 1, 0}},
		{free, []int{math.MaxInt, math.MinInt, math.MaxInt, math.MinInt}, []int{1, 3, 0, 2}},
		{free, []int{1 << 32, 1, 1<<32 + 1, 2}, []int{1, 3, 0, 2}},
		{chain(4), []int{3, 2, 1, 0}, []int{0, 1, 2, 3}},
		{chain(4).Inverse(), []int{0, 1, 2, 3}, []int{3, 2, 1, 0}},
		{rel.New(0), nil, []int{}},
		{rel.New(1), []int{math.MinInt}, []int{0}},
		{rel.New(64), downfrom(64), downfrom(64)},
		{rel.New(64), make([]int, 64), upto(64)},
	} {
		holdGreedy(t, x.r, x.rank, x.want)
	}
}

func Test9_1GreedyWhereRankEnds(t *testing.T) {
	free := rel.New(4)
	for _, x := range []struct {
		r          rel.Rel
		rank, want []int
	}{
		{free, nil, []int{0, 1, 2, 3}},
		{free, []int{}, []int{0, 1, 2, 3}},
		{free, []int{9}, []int{0, 1, 2, 3}},
		{free, []int{9, 9}, []int{0, 1, 2, 3}},
		{free, []int{9, 8}, []int{1, 0, 2, 3}},
		{free, []int{math.MaxInt, math.MaxInt - 1}, []int{1, 0, 2, 3}},
		{free, []int{3, 2, 1}, []int{2, 1, 0, 3}},
		{free, []int{3, 2, 1, 0, -1, -2}, []int{3, 2, 1, 0}},
		{relOf(4, [2]int{2, 0}), []int{5, 5}, []int{1, 2, 0, 3}},
		{relOf(4, [2]int{3, 0}), []int{5, 6}, []int{1, 2, 3, 0}},
		{relOf(4, [2]int{3, 0}, [2]int{2, 1}), []int{5}, []int{2, 1, 3, 0}},
		{rel.New(0), []int{4, 3}, []int{}},
		{rel.New(1), []int{4, 3}, []int{0}},
		{rel.New(64), []int{2, 1, 0}, slices.Concat([]int{2, 1, 0}, upto(64)[3:])},
		{rel.New(64), downfrom(100), downfrom(64)},
		{rel.New(64), downfrom(63), slices.Concat(downfrom(63), []int{63})},
	} {
		holdGreedy(t, x.r, x.rank, x.want)
	}
}

// Test9_1GreedyStepByStep asks, of each number of a long row, if one that might
// have come in its stead is of lesser rank.
func Test9_1GreedyStepByStep(t *testing.T) {
	source := rand.New(rand.NewSource(95))
	for range 300 {
		n := sizes[source.Intn(len(sizes))]
		r := mixed(source, n, 1+source.Intn(30))
		rank := make([]int, source.Intn(70))
		for i := range rank {
			rank[i] = source.Intn(9) - 4
		}
		row, ok := Greedy(r, rank)
		if !ok || !keeps(r, row) {
			t.Fatalf("%v over %d: %v, %v", r.Pairs(), n, row, ok)
		}
		for i, a := range row {
			for _, b := range row[i+1:] {
				waits := slices.ContainsFunc(row[i:], func(c int) bool { return r.Has(c, b) })
				if !waits && sooner(rank, b, a) {
					t.Fatalf("%v over %d by %v: %d, not %d, in %v", r.Pairs(), n, rank, a, b, row)
				}
			}
		}
	}
}

func Test9_1KeepsOfWrongRows(t *testing.T) {
	r := relOf(3, [2]int{0, 1})
	for _, row := range [][]int{nil, {}, {0}, {0, 1}, {0, 2}, {0, 1, 1}, {0, 0, 1}, {0, 1, 0}, {2, 2, 2}, {0, 1, 3}, {3, 0, 1}, {0, 1, -1}, {-1, 0, 1}, {0, 1, 2, 2}, {0, 1, 2, 3}, {0, 1, 2, -1}, {0, 1, 2, 0, 1, 2}, {1, 0, 2}, {1, 2, 0}, {2, 1, 0}} {
		if Keeps(r, row) {
			t.Errorf("%v", row)
		}
	}
	if !Keeps(rel.New(0), nil) || !Keeps(rel.New(0), []int{}) || Keeps(rel.New(0), []int{0}) || Keeps(rel.New(0), []int{-1}) {
		t.Error("over none")
	}
	if !Keeps(rel.New(1), []int{0}) || Keeps(rel.New(1), nil) || Keeps(rel.New(1), []int{0, 0}) || Keeps(rel.New(1), []int{1}) {
		t.Error("over one")
	}
	for _, n := range sizes {
		holdWrongRows(t, n)
	}
}

func holdWrongRows(t *testing.T, n int) {
	t.Helper()
	for _, r := range []rel.Rel{rel.New(n), chain(n), rising(n)} {
		if !Keeps(r, upto(n)) || Keeps(r, upto(n+1)) || Keeps(r, append(upto(n), 0)) || Keeps(r, append(upto(n), -1)) {
			t.Errorf("over %d", n)
		}
		for i := range n {
			if Keeps(r, slices.Delete(upto(n), i, i+1)) {
				t.Errorf("over %d without %d", n, i)
			}
			for _, a := range append([]int{(i + 1) % n, (i + n - 1) % n, n, n + 1}, strangers...) {
				row := upto(n)
				row[i] = a
				if a != i && Keeps(r, row) {
					t.Errorf("over %d with %d in the place of %d", n, a, i)
				}
			}
		}
	}
}

// Test9_1KeepsEachPair turns two neighbours of a row round: what one pair rules
// out must be told of that pair alone.
func Test9_1KeepsEachPair(t *testing.T) {
	for _, n := range []int{2, 3, 33, 64} {
		for i := range n - 1 {
			row := upto(n)
			row[i], row[i+1] = row[i+1], row[i]
			if Keeps(chain(n), row) || Keeps(relOf(n, [2]int{i, i + 1}), row) {
				t.Errorf("over %d: %d behind %d", n, i, i+1)
			}
			if !Keeps(rel.New(n), row) || !Keeps(relOf(n, [2]int{i + 1, i}), row) {
				t.Errorf("over %d: %d ahead of %d", n, i+1, i)
			}
		}
		if Keeps(relOf(n, [2]int{n - 1, 0}), upto(n)) || !Keeps(relOf(n, [2]int{0, n - 1}), upto(n)) {
			t.Errorf("over %d: the first and the last", n)
		}
	}
}

// spare is l with room behind it that tells if somebody wrote there.
func spare(l []int) []int {
	long := append(slices.Clone(l), 77, 77, 77)
	return long[:len(l)]
}

func untouched(l, want []int) bool {
	return slices.Equal(l[:len(want)+3], append(slices.Clone(want), 77, 77, 77))
}

func Test9_1NothingHandedInIsChanged(t *testing.T) {
	source := rand.New(rand.NewSource(96))
	for _, n := range sizes {
		for _, r := range []rel.Rel{rel.New(n), chain(n), mixed(source, n, 3), ring(n)} {
			copied, row := r, source.Perm(n)
			rank := source.Perm(n + 2)
			l, k := spare(row), spare(rank)
			Keeps(r, l)
			Greedy(r, k)
			First(r)
			All(r, 40)
			Count(r, 40)
			if r != copied || !untouched(l, row) || !untouched(k, rank) {
				t.Fatalf("over %d: changed", n)
			}
		}
	}
}

func scribble(l []int) {
	l = l[:cap(l)]
	for i := range l {
		l[i] = -99
	}
}

func Test9_1AnAnswerIsNewMemory(t *testing.T) {
	for _, n := range []int{1, 2, 5, 9, 64} {
		r, rank, row := rel.New(n), upto(n), upto(n)
		want := All(r, 60)
		for i := range want {
			got := All(r, 60)
			scribble(got[i])
			got[i] = want[i]
			if !sameRows(got, want) {
				t.Fatalf("over %d: row %d shares its memory", n, i)
			}
		}
		first, _ := First(r)
		byRank, _ := Greedy(r, rank)
		again, _ := Greedy(r, rank)
		scribble(first)
		scribble(byRank)
		if !slices.Equal(again, row) || !slices.Equal(rank, row) || !sameRows(All(r, 60), want) {
			t.Fatalf("over %d: kept or shared", n)
		}
	}
}

// Test9_1ARankIsNotKept asks the same again by another rank in the same memory.
func Test9_1ARankIsNotKept(t *testing.T) {
	rank := []int{0, 1, 2, 3}
	holdGreedy(t, rel.New(4), rank, []int{0, 1, 2, 3})
	slices.Reverse(rank)
	holdGreedy(t, rel.New(4), rank, []int{3, 2, 1, 0})
	holdGreedy(t, rel.New(4), nil, []int{0, 1, 2, 3})
}

func Test9_2EachOnce(t *testing.T) {
	source := rand.New(rand.NewSource(97))
	list := []rel.Rel{rel.New(8), rel.New(64), blocks(4), blocks(12), relOf(5, [2]int{4, 0}), relOf(64, [2]int{63, 0})}
	for _, n := range sizes {
		for _, sparse := range []int{2, 9, 40} {
			list = append(list, mixed(source, n, sparse))
		}
	}
	for _, r := range list {
		holdOnce(t, r, All(r, 3000))
	}
}

func holdOnce(t *testing.T, r rel.Rel, rows [][]int) {
	t.Helper()
	seen := map[[64]int]int{}
	for _, row := range rows {
		if !keeps(r, row) || !Keeps(r, row) {
			t.Fatalf("%v over %d: %v is none", r.Pairs(), r.N(), row)
		}
		key := [64]int{}
		copy(key[:], row)
		seen[key]++
		if seen[key] > 1 {
			t.Fatalf("%v over %d: %v twice", r.Pairs(), r.N(), row)
		}
	}
	if !risingRows(rows) || len(rows) != Count(r, 3000) {
		t.Fatalf("%v over %d: %d rows, count %d", r.Pairs(), r.N(), len(rows), Count(r, 3000))
	}
}

// Test9_2NoneLeftOut has rows by chance that keep the relation: each is told.
func Test9_2NoneLeftOut(t *testing.T) {
	source := rand.New(rand.NewSource(98))
	for range 60 {
		n := 5 + source.Intn(3)
		r := mixed(source, n, 1+source.Intn(8))
		told := All(r, 100_000)
		for range 200 {
			row := source.Perm(n)
			in := slices.ContainsFunc(told, func(o []int) bool { return slices.Equal(o, row) })
			if in != keeps(r, row) {
				t.Fatalf("%v over %d: %v told %v", r.Pairs(), n, row, in)
			}
		}
	}
}

// Test9_3CyclesBehindFreeNumbers would not end if rows were begun that can't be
// brought to their end.
func Test9_3CyclesBehindFreeNumbers(t *testing.T) {
	for _, free := range []int{20, 40, 61, 62, 63} {
		r := fill(64, func(a, b int) bool { return a >= free && b >= free && (b == a+1 || a == 63 && b == free) })
		holdNone(t, r)
		holdNone(t, r.Inverse())
		holdNone(t, fill(64, func(a, b int) bool { return r.Has(63-a, 63-b) }))
	}
}

// Test9_3LongWaysBetweenOrders has few free numbers and long chains behind them:
// each order is reached over many places.
func Test9_3LongWaysBetweenOrders(t *testing.T) {
	behind := fill(64, func(a, b int) bool { return b >= 9 && (b == a+1 || a < 9 && b == 9) })
	for _, r := range []rel.Rel{behind, behind.Closure(), blocks(12)} {
		if got := Count(r, math.MaxInt); got != 100_000 {
			t.Errorf("%d", got)
		}
		if got := All(r, math.MaxInt); len(got) != 100_000 || !risingRows(got) {
			t.Errorf("%d rows", len(got))
		}
	}
}

func Test9_3AnyRelationAndAnyNumber(t *testing.T) {
	source := rand.New(rand.NewSource(99))
	numbers := slices.Concat(strangers, []int{0, 1, 2, 62, 63})
	for range 600 {
		n := numbers[source.Intn(len(numbers))]
		r := fill(rel.New(n).N(), func(a, b int) bool { return source.Intn(200) == 0 })
		row := make([]int, source.Intn(130))
		for i := range row {
			row[i] = numbers[source.Intn(len(numbers))]
		}
		if Keeps(r, row) != keeps(r, row) {
			t.Fatalf("%v over %d: %v", r.Pairs(), r.N(), row)
		}
		by, ok := Greedy(r, row)
		first, begun := First(r)
		if ok != r.Acyclic() || begun != ok || ok && (!keeps(r, by) || !keeps(r, first)) {
			t.Fatalf("%v over %d: %v, %v", r.Pairs(), r.N(), by, ok)
		}
		most := min(numbers[source.Intn(len(numbers))], 200)
		if got := All(r, most); len(got) != Count(r, most) || len(got) > max(most, 0) || !ok && len(got) > 0 {
			t.Fatalf("%v over %d, most %d: %d rows", r.Pairs(), r.N(), most, len(got))
		}
	}
	zero := rel.Rel{}
	if got, ok := First(zero); !ok || len(got) != 0 || Count(zero, 9) != 1 {
		t.Error("the relation over none")
	}
}
