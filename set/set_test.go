package set

import (
	"math"
	"math/rand"
	"slices"
	"testing"
)

const all = Set(math.MaxUint64)

var none Set

// strangers are in no Set. Among them are those that are 0, 5 or 63 modulo 64.
var strangers = []int{-1, -5, -59, -63, -64, -65, 64, 65, 69, 127, 128, 1 << 32, -1 << 32, 1<<32 + 5, math.MinInt, math.MinInt + 1, math.MaxInt, math.MaxInt - 1}

var samples = []Set{0, 1, 2, 3, 5, 6, 33, 1 << 5, 1 << 31, 1 << 32, 1 << 62, 1 << 63, 3 << 62, 1<<63 | 1, 0xF0F0F0F0F0F0F0F0, math.MaxUint32, math.MaxUint32 << 32, math.MaxInt64, all - 1, all}

func someSets() []Set {
	list := slices.Clone(samples)
	source := rand.New(rand.NewSource(71))
	for range 400 {
		s := Set(source.Uint64())
		list = append(list, s, s&Set(source.Uint64()), s|Set(source.Uint64()), s>>source.Intn(64), s<<source.Intn(64))
	}
	return list
}

// members reckons with halves instead of bits.
func members(s Set) []int {
	var list []int
	for i, rest := 0, uint64(s); rest > 0; i, rest = i+1, rest/2 {
		if rest%2 == 1 {
			list = append(list, i)
		}
	}
	return list
}

// word is the sum of the powers of two of a list without doubles.
func word(list []int) Set {
	sum := uint64(0)
	for _, i := range list {
		power := uint64(1)
		for range i {
			power *= 2
		}
		sum += power
	}
	return Set(sum)
}

func isMember(i int) bool { return 0 <= i && i <= 63 }

func holdSet(t *testing.T, call string, got Set, want ...int) {
	t.Helper()
	if !slices.Equal(members(got), want) {
		t.Errorf("%s: %v, want %v", call, members(got), want)
	}
}

func Test7_1Of(t *testing.T) {
	holdSet(t, "Of()", Of())
	holdSet(t, "Of(0)", Of(0), 0)
	holdSet(t, "Of(63)", Of(63), 63)
	holdSet(t, "Of(0, 1)", Of(0, 1), 0, 1)
	holdSet(t, "Of(63, 7, 0, 31, 32)", Of(63, 7, 0, 31, 32), 0, 7, 31, 32, 63)
	if got := Of(0, 2, 63); got != 1<<63|1<<2|1 {
		t.Errorf("as a word: %x", uint64(got))
	}
	if Of(nil...) != 0 || Of([]int{}...) != 0 {
		t.Error("no list is not the empty Set")
	}
}

func Test7_1OfTheSameTwice(t *testing.T) {
	holdSet(t, "Of(5, 5)", Of(5, 5), 5)
	holdSet(t, "Of(5, 5, 5)", Of(5, 5, 5), 5)
	holdSet(t, "Of(63, 63)", Of(63, 63), 63)
	holdSet(t, "Of(0, 3, 0, 3)", Of(0, 3, 0, 3), 0, 3)
}

func Test7_1OfAll(t *testing.T) {
	var list []int
	for i := 63; i >= 0; i-- {
		list = append(list, i)
	}
	if got := Of(list...); got != all {
		t.Errorf("%x", uint64(got))
	}
}

func Test7_1OfPassesOthersOver(t *testing.T) {
	holdSet(t, "strangers", Of(strangers...))
	for _, i := range strangers {
		holdSet(t, "one stranger", Of(i))
		holdSet(t, "a stranger between", Of(4, i, 9), 4, 9)
		holdSet(t, "a stranger ahead", Of(i, 0, 63), 0, 63)
		holdSet(t, "a stranger behind", Of(63, i), 63)
	}
}

func Test7_1OfLeavesItsList(t *testing.T) {
	whole := []int{9, -1, 9, 64, 0, 63, 17, 18}
	kept := slices.Clone(whole)
	got := Of(whole[:4]...)
	if !slices.Equal(whole, kept) {
		t.Errorf("changed to %v", whole)
	}
	for i := range whole {
		whole[i] = 40
	}
	holdSet(t, "after its list was changed", got, 9)
}

func Test7_1Has(t *testing.T) {
	for _, s := range someSets() {
		list := members(s)
		for i := range 64 {
			if s.Has(i) != slices.Contains(list, i) {
				t.Fatalf("%v has %d: %v", list, i, s.Has(i))
			}
		}
		for _, i := range strangers {
			if s.Has(i) {
				t.Fatalf("%v has %d", list, i)
			}
		}
	}
}

func Test7_1With(t *testing.T) {
	holdSet(t, "none with 0", none.With(0), 0)
	holdSet(t, "none with 63", none.With(63), 63)
	holdSet(t, "with one that is there", Of(0, 5, 63).With(5), 0, 5, 63)
	holdSet(t, "with one that is not", Of(0, 5, 63).With(6), 0, 5, 6, 63)
	if all.With(0) != all || all.With(63) != all {
		t.Error("all with one")
	}
	for _, s := range someSets() {
		list := members(s)
		for i := range 64 {
			want := slices.Clone(list)
			if !slices.Contains(want, i) {
				want = append(want, i)
			}
			if s.With(i) != word(want) {
				t.Fatalf("%v with %d: %v", list, i, members(s.With(i)))
			}
		}
	}
}

func Test7_1WithPassesOthersOver(t *testing.T) {
	for _, s := range someSets() {
		for _, i := range strangers {
			if s.With(i) != s {
				t.Fatalf("%v with %d: %v", members(s), i, members(s.With(i)))
			}
		}
	}
}

func Test7_1Without(t *testing.T) {
	holdSet(t, "none without 0", none.Without(0))
	holdSet(t, "without the only one", Of(63).Without(63))
	holdSet(t, "without one that is there", Of(0, 5, 63).Without(5), 0, 63)
	holdSet(t, "without one that is not", Of(0, 5, 63).Without(6), 0, 5, 63)
	if all.Without(63) != math.MaxInt64 || all.Without(0) != all-1 {
		t.Error("all without one")
	}
	for _, s := range someSets() {
		list := members(s)
		for i := range 64 {
			want := slices.DeleteFunc(slices.Clone(list), func(j int) bool { return j == i })
			if s.Without(i) != word(want) {
				t.Fatalf("%v without %d: %v", list, i, members(s.Without(i)))
			}
		}
		for _, i := range strangers {
			if s.Without(i) != s {
				t.Fatalf("%v without %d: %v", list, i, members(s.Without(i)))
			}
		}
	}
}

func Test7_1Len(t *testing.T) {
	for s, want := range map[Set]int{0: 0, 1: 1, 1 << 63: 1, 3: 2, 1<<63 | 1: 2, math.MaxInt64: 63, all: 64} {
		if s.Len() != want {
			t.Errorf("%x: %d, want %d", uint64(s), s.Len(), want)
		}
	}
	for _, s := range someSets() {
		if s.Len() != len(members(s)) {
			t.Fatalf("%v: %d", members(s), s.Len())
		}
	}
}

func Test7_1List(t *testing.T) {
	if len(none.List()) != 0 {
		t.Errorf("none: %v", none.List())
	}
	for _, s := range someSets() {
		if got := s.List(); !slices.Equal(got, members(s)) {
			t.Fatalf("%v: %v", members(s), got)
		}
		if Of(s.List()...) != s {
			t.Fatalf("%v is not of its own list", members(s))
		}
	}
}

func Test7_1ListIsNewMemory(t *testing.T) {
	s := Of(1, 4, 63)
	first, second := s.List(), s.List()
	for i := range first[:cap(first)] {
		first[:cap(first)][i] = -9
	}
	if !slices.Equal(second, []int{1, 4, 63}) || !slices.Equal(s.List(), []int{1, 4, 63}) {
		t.Errorf("%v, %v", second, s.List())
	}
}

func Test7_1First(t *testing.T) {
	if none.First() != -1 {
		t.Errorf("none: %d", none.First())
	}
	if all.First() != 0 || Of(63).First() != 63 || Of(63, 62).First() != 62 || Of(0).First() != 0 {
		t.Error("the edges")
	}
	for _, s := range someSets() {
		if list := members(s); len(list) > 0 && s.First() != list[0] {
			t.Fatalf("%v: %d", list, s.First())
		}
	}
}

func Test7_1Upto(t *testing.T) {
	want := []int(nil)
	for n := range 65 {
		holdSet(t, "Upto", Upto(n), want...)
		want = append(want, n)
	}
	for _, n := range strangers {
		if n < 0 && Upto(n) != 0 || n > 63 && Upto(n) != all {
			t.Errorf("Upto(%d): %x", n, uint64(Upto(n)))
		}
	}
}

func Test7_1Next(t *testing.T) {
	for _, c := range []struct{ from, to []int }{
		{[]int{0, 1}, []int{0, 2}},
		{[]int{0, 2}, []int{1, 2}},
		{[]int{1, 2}, []int{0, 3}},
		{[]int{0}, []int{1}},
		{[]int{62}, []int{63}},
		{[]int{61, 62}, []int{0, 63}},
		{[]int{60, 61, 62}, []int{0, 1, 63}},
		{[]int{0, 62, 63}, []int{1, 62, 63}},
		{[]int{61, 63}, []int{62, 63}},
		{[]int{2, 3, 4, 9}, []int{0, 1, 5, 9}},
		{[]int{30, 31}, []int{0, 32}},
	} {
		holdSet(t, "Next", Of(c.from...).Next(), c.to...)
	}
	holdSet(t, "all but 63", all.Without(63).Next(), members(all.Without(62))...)
}

func Test7_1NextOfTheGreatest(t *testing.T) {
	if none.Next() != 0 || all.Next() != 0 {
		t.Errorf("none: %x, all: %x", uint64(none.Next()), uint64(all.Next()))
	}
	for n := range 65 {
		if s := all &^ Upto(64-n); s.Next() != 0 {
			t.Errorf("%v: %v", members(s), members(s.Next()))
		}
	}
}

// nextByHand moves the least number that has room above it one up, and all that
// are less back to the beginning.
func nextByHand(list []int) []int {
	for k, i := range list {
		if i == 63 || k+1 < len(list) && list[k+1] == i+1 {
			continue
		}
		next := slices.Clone(list)
		next[k]++
		for j := range k {
			next[j] = j
		}
		return next
	}
	return nil
}

func Test7_1NextByHand(t *testing.T) {
	for _, s := range someSets() {
		want := nextByHand(members(s))
		if got := members(s.Next()); !slices.Equal(got, want) {
			t.Fatalf("%v: %v, want %v", members(s), got, want)
		}
	}
}

// Test7_1NextLeavesNoneOut looks at every word between a Set and its Next.
func Test7_1NextLeavesNoneOut(t *testing.T) {
	for s := Set(1); s < 1<<12; s++ {
		want := s + 1
		for len(members(want)) != len(members(s)) {
			want++
		}
		if s.Next() != want {
			t.Fatalf("%v: %v, want %v", members(s), members(s.Next()), members(want))
		}
	}
}

func choose(n, k int) int {
	ways := 1
	for i := range min(k, n-k) {
		ways = ways * (n - i) / (i + 1)
	}
	return ways
}

// holdWalk goes from the least Set of n numbers to the last one.
func holdWalk(t *testing.T, n int) {
	t.Helper()
	count, last := 0, Set(0)
	for s := Upto(n); s != 0; s = s.Next() {
		if s <= last || s.Len() != n || count > choose(64, n) {
			t.Fatalf("%d numbers: %v after %v", n, s.List(), last.List())
		}
		count, last = count+1, s
	}
	if count != choose(64, n) || last.First() != 64-n {
		t.Errorf("%d numbers: %d Sets up to %v", n, count, last.List())
	}
}

func Test7_2AllSetsOfOneLen(t *testing.T) {
	for _, n := range []int{1, 2, 3, 4, 61, 62, 63, 64} {
		holdWalk(t, n)
	}
}

func Test7_2AllSubsetsOfFewNumbers(t *testing.T) {
	for most := range 15 {
		seen := map[Set]int{0: 1}
		for n := 1; n <= most; n++ {
			for s := Upto(n); s != 0 && s < 1<<most; s = s.Next() {
				seen[s]++
			}
		}
		if len(seen) != 1<<most {
			t.Errorf("of %d numbers: %d Sets", most, len(seen))
		}
		for s, times := range seen {
			if times != 1 {
				t.Errorf("%v was seen %d times", s.List(), times)
			}
		}
	}
}

// holdCalls asks everything of s and i, and holds what joins the answers.
func holdCalls(t *testing.T, s Set, i int) {
	t.Helper()
	with, without := s.With(i), s.Without(i)
	if s.Has(i) && !isMember(i) || with.Has(i) != isMember(i) || without.Has(i) || with.Without(i) != without {
		t.Fatalf("%v and %d", members(s), i)
	}
	if Of(append(s.List(), i)...) != with || Upto(i).Len() != min(max(i, 0), 64) {
		t.Fatalf("%v and %d", members(s), i)
	}
	if next := s.Next(); next != 0 && (next <= s || next.Len() != s.Len()) {
		t.Fatalf("%v: next %v", members(s), members(next))
	}
	if s.First() != -1 && !s.Has(s.First()) || s.Len() != len(s.List()) {
		t.Fatalf("%v: first %d, len %d", members(s), s.First(), s.Len())
	}
}

func Test7_3AnyWordAndAnyNumber(t *testing.T) {
	source := rand.New(rand.NewSource(73))
	for _, s := range someSets() {
		for _, i := range append(slices.Clone(strangers), 0, 1, 62, 63, int(source.Uint64()), source.Intn(200)-70) {
			holdCalls(t, s, i)
		}
	}
}

func Test7_3GreatLists(t *testing.T) {
	list := make([]int, 1<<20)
	for k := range list {
		list[k] = k - 1<<19
	}
	if Of(list...) != all {
		t.Error("a great list has all")
	}
	for k := range list {
		list[k] = math.MinInt + k
	}
	if Of(list...) != 0 {
		t.Error("a great list of strangers has some")
	}
}
