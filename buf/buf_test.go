package buf

import (
	"fmt"
	"math"
	"math/rand"
	"slices"
	"testing"

	"jacquard/api"
)

// models are those whose stores wait.
var models = []int{api.MTSO, api.MPSO}

// around are the locations and those that stand beside them.
var around = []int{-1, 0, 1, 2, 3, 4}

// plain is a Buf as a list of all that waits, as it was put. No call changes one.
type plain struct {
	m    int
	list []api.Entry
}

func (p plain) put(loc int, value int64, id int) plain {
	if !slices.Contains(models, p.m) || loc < 0 || loc > 3 || len(p.list) > 23 {
		return p
	}
	return plain{p.m, append(slices.Clone(p.list), api.Entry{Loc: loc, Value: value, ID: id})}
}

// row is the places of list that wait for each other if one of them is to loc.
func (p plain) row(loc int) []int {
	var row []int
	for at, e := range p.list {
		if p.m == api.MTSO || e.Loc == loc {
			row = append(row, at)
		}
	}
	return row
}

func (p plain) entries(loc int) []api.Entry {
	var l []api.Entry
	for _, at := range p.row(loc) {
		l = append(l, p.list[at])
	}
	return l
}

func (p plain) drop(loc int) plain {
	row := p.row(loc)
	if len(row) == 0 {
		return p
	}
	return plain{p.m, slices.Delete(slices.Clone(p.list), row[0], row[0]+1)}
}

// told is all that calls tell of p and of what becomes of it.
func (p plain) told() string {
	if p.m == api.MTSO {
		return fmt.Sprint(p.m, p.list)
	}
	return fmt.Sprint(p.m, p.entries(0), p.entries(1), p.entries(2), p.entries(3))
}

// hold holds every answer of b, for each of locs, against p.
func hold(t *testing.T, b Buf, p plain, locs []int) {
	t.Helper()
	if b.Len() != len(p.list) || b.Empty() != (len(p.list) == 0) {
		t.Fatalf("%v: Len %d, Empty %v", p, b.Len(), b.Empty())
	}
	for _, loc := range locs {
		var newest, oldest api.Entry
		isTo := func(e api.Entry) bool { return e.Loc == loc }
		has := slices.ContainsFunc(p.list, isTo)
		for _, e := range p.list {
			if isTo(e) {
				newest = e
			}
		}
		if value, id, ok := b.Newest(loc); ok != has || value != newest.Value || id != newest.ID {
			t.Fatalf("%v: Newest(%d) %d %d %v", p, loc, value, id, ok)
		}
		l := p.entries(loc)
		if len(l) > 0 {
			oldest = l[0]
		}
		at, value, id, ok := b.Oldest(loc)
		if ok != (len(l) > 0) || (api.Entry{Loc: at, Value: value, ID: id}) != oldest {
			t.Fatalf("%v: Oldest(%d) %d %d %d %v", p, loc, at, value, id, ok)
		}
		if got := b.List(loc); !slices.Equal(got, l) {
			t.Fatalf("%v: List(%d) %v", p, loc, got)
		}
		if len(l) == 0 && b.Drop(loc) != b {
			t.Fatalf("%v: Drop(%d) %v", p, loc, b.Drop(loc))
		}
	}
}

// filled is a Buf of m with a store to each of locs, of the values 10, 11 and so
// on and with the ids 0, 1 and so on; and beside it the same in plain.
func filled(m int, locs ...int) (Buf, plain) {
	b, p := New(m), plain{m: m}
	for k, loc := range locs {
		b, p = b.Put(loc, int64(10+k), k), p.put(loc, int64(10+k), k)
	}
	return b, p
}

// oldest is what Oldest answers as a text, empty of none.
func oldest(b Buf, loc int) string {
	at, value, id, ok := b.Oldest(loc)
	if !ok {
		return ""
	}
	return fmt.Sprint(at, value, id)
}

func Test15_1Example(t *testing.T) {
	at, value, _, ok := New(api.MTSO).Put(0, 5, 1).Put(1, 6, 2).Oldest(1)
	if at != 0 || value != 5 || !ok {
		t.Error(at, value, ok)
	}
	at, value, _, ok = New(api.MPSO).Put(0, 5, 1).Put(1, 6, 2).Oldest(1)
	if at != 1 || value != 6 || !ok {
		t.Error(at, value, ok)
	}
}

func Test15_1New(t *testing.T) {
	for _, m := range models {
		hold(t, New(m), plain{m: m}, around)
		if New(m) != New(m) {
			t.Errorf("model %d: New is not New", m)
		}
	}
	if New(api.MTSO) == New(api.MPSO) || New(api.MTSO) == New(api.MSC) || New(api.MPSO) == New(api.MSC) {
		t.Error("models are not told apart")
	}
}

func Test15_1PutOfAnotherModel(t *testing.T) {
	for _, m := range []int{-2, -1, 0, api.MSC, 4, 5, 24, 256 + api.MTSO, 1<<32 + api.MPSO, math.MinInt, math.MaxInt} {
		b := New(m)
		hold(t, b, plain{m: m}, around)
		for _, loc := range around {
			if b.Put(loc, 5, 7) != b || b.Drop(loc) != b {
				t.Errorf("model %d, location %d", m, loc)
			}
			hold(t, b.Put(loc, 5, 7), plain{m: m}, around)
		}
	}
}

func Test15_1PutOutside(t *testing.T) {
	for _, m := range models {
		for _, b := range []Buf{New(m), New(m).Put(0, 5, 1), New(m).Put(3, 5, 1).Put(0, 6, 2)} {
			for _, loc := range []int{math.MinInt, -1 << 32, -256, -4, -2, -1, 4, 5, 7, 8, 256, 259, 1 << 32, 1<<32 + 3, math.MaxInt} {
				if b.Put(loc, 9, 9) != b {
					t.Errorf("model %d: Put(%d) into %v", m, loc, b)
				}
			}
			for loc := range 4 {
				if c := b.Put(loc, 9, 9); c == b || c.Len() != b.Len()+1 {
					t.Errorf("model %d: no Put(%d) into %v", m, loc, b)
				}
			}
		}
	}
}

// 24 wait, and one more does not, wherever they are to; where one has come to
// memory there is room for one.
func Test15_1PutMoreThan24(t *testing.T) {
	for _, m := range models {
		for _, locs := range [][]int{{0}, {3}, {0, 1}, {3, 0}, {0, 1, 2, 3}, {3, 2, 1, 0}, {2, 2, 2, 0, 1}} {
			b, p := filled(m)
			for k := range 24 {
				loc := locs[k%len(locs)]
				b, p = b.Put(loc, int64(k), k), p.put(loc, int64(k), k)
				hold(t, b, p, around)
			}
			if b.Len() != 24 {
				t.Fatalf("model %d: %d wait", m, b.Len())
			}
			for _, loc := range around {
				if b.Put(loc, 99, 99) != b {
					t.Fatalf("model %d: 24 wait, and Put(%d) tells", m, loc)
				}
			}
			for _, loc := range locs {
				c, q := b.Drop(loc).Put(locs[0], 77, 77), p.drop(loc).put(locs[0], 77, 77)
				hold(t, c, q, around)
				if value, id, _ := c.Newest(locs[0]); c.Len() != 24 || value != 77 || id != 77 || c.Put(0, 1, 1) != c {
					t.Fatalf("model %d: %v after one was dropped", m, c)
				}
			}
		}
	}
}

func Test15_1Newest(t *testing.T) {
	for _, m := range models {
		b, _ := filled(m, 0, 1, 0, 3, 1)
		for loc, want := range map[int][2]int64{0: {12, 2}, 1: {14, 4}, 3: {13, 3}} {
			if value, id, ok := b.Newest(loc); !ok || value != want[0] || int64(id) != want[1] {
				t.Errorf("model %d: Newest(%d) %d %d %v", m, loc, value, id, ok)
			}
		}
		for _, loc := range []int{-1, 2, 4, math.MinInt, math.MaxInt} {
			if value, id, ok := b.Newest(loc); ok || value != 0 || id != 0 {
				t.Errorf("model %d: Newest(%d) %d %d %v", m, loc, value, id, ok)
			}
		}
	}
}

// Values and ids are any number, the same twice, and 0: what waits is told by ok.
func Test15_1ValuesAndIDs(t *testing.T) {
	for _, m := range models {
		b, p := New(m), plain{m: m}
		for k, n := range []int{0, 0, -1, 1, math.MinInt, math.MaxInt, 1 << 32, 0, -1 << 32, 0} {
			b, p = b.Put(k%2, int64(n), -n), p.put(k%2, int64(n), -n)
			hold(t, b, p, around)
		}
		for k := range 11 {
			b, p = b.Drop(k%2), p.drop(k%2)
			hold(t, b, p, around)
		}
	}
}

func Test15_1Oldest(t *testing.T) {
	for _, c := range []struct {
		m, loc int
		want   string
	}{
		{api.MTSO, 1, "1 10 0"}, {api.MTSO, 0, "1 10 0"}, {api.MTSO, 3, "1 10 0"}, {api.MTSO, 2, "1 10 0"},
		{api.MTSO, -1, "1 10 0"}, {api.MTSO, 4, "1 10 0"}, {api.MTSO, math.MinInt, "1 10 0"}, {api.MTSO, math.MaxInt, "1 10 0"},
		{api.MPSO, 0, "0 11 1"}, {api.MPSO, 1, "1 10 0"}, {api.MPSO, 3, "3 14 4"}, {api.MPSO, 2, ""},
		{api.MPSO, -1, ""}, {api.MPSO, 4, ""}, {api.MPSO, math.MinInt, ""}, {api.MPSO, math.MaxInt, ""},
	} {
		b, _ := filled(c.m, 1, 0, 1, 0, 3)
		if got := oldest(b, c.loc); got != c.want {
			t.Errorf("model %d: Oldest(%d) %q, want %q", c.m, c.loc, got, c.want)
		}
		for _, none := range []Buf{New(c.m), b.Drop(0).Drop(0).Drop(1).Drop(1).Drop(3)} {
			if at, value, id, ok := none.Oldest(c.loc); at != 0 || value != 0 || id != 0 || ok {
				t.Errorf("model %d: nothing waits, and Oldest(%d) is %d %d %d %v", c.m, c.loc, at, value, id, ok)
			}
		}
	}
}

func Test15_1Drop(t *testing.T) {
	for _, c := range []struct {
		m, loc int
		want   string
	}{
		{api.MTSO, 1, "[{0 11 1} {1 12 2} {3 13 3}]"}, {api.MTSO, 0, "[{0 11 1} {1 12 2} {3 13 3}]"}, {api.MTSO, 2, "[{0 11 1} {1 12 2} {3 13 3}]"},
		{api.MTSO, -1, "[{0 11 1} {1 12 2} {3 13 3}]"}, {api.MTSO, 4, "[{0 11 1} {1 12 2} {3 13 3}]"}, {api.MTSO, math.MaxInt, "[{0 11 1} {1 12 2} {3 13 3}]"},
		{api.MPSO, 1, "[{0 11 1}] [{1 12 2}] [] [{3 13 3}]"}, {api.MPSO, 0, "[] [{1 10 0} {1 12 2}] [] [{3 13 3}]"}, {api.MPSO, 3, "[{0 11 1}] [{1 10 0} {1 12 2}] [] []"},
		{api.MPSO, 2, "[{0 11 1}] [{1 10 0} {1 12 2}] [] [{3 13 3}]"}, {api.MPSO, -1, "[{0 11 1}] [{1 10 0} {1 12 2}] [] [{3 13 3}]"}, {api.MPSO, 4, "[{0 11 1}] [{1 10 0} {1 12 2}] [] [{3 13 3}]"},
	} {
		b, p := filled(c.m, 1, 0, 1, 3)
		left := b.Drop(c.loc)
		got := fmt.Sprint(left.List(0), " ", left.List(1), " ", left.List(2), " ", left.List(3))
		if c.m == api.MTSO {
			got = fmt.Sprint(left.List(0))
		}
		if got != c.want {
			t.Errorf("model %d: Drop(%d) leaves %s, want %s", c.m, c.loc, got, c.want)
		}
		hold(t, left, p.drop(c.loc), around)
	}
}

func Test15_1DropOfNone(t *testing.T) {
	for _, m := range models {
		for _, loc := range []int{-1, 0, 1, 2, 3, 4, math.MinInt, math.MaxInt} {
			if New(m).Drop(loc) != New(m) || New(m).Drop(loc).Drop(loc).Len() != 0 {
				t.Errorf("model %d: Drop(%d) of nothing", m, loc)
			}
		}
	}
}

// With MTSO, List is all that waits whatever the location is.
func Test15_1List(t *testing.T) {
	all := []api.Entry{{Loc: 2, Value: 10, ID: 0}, {Loc: 0, Value: 11, ID: 1}, {Loc: 2, Value: 12, ID: 2}}
	b, _ := filled(api.MTSO, 2, 0, 2)
	for _, loc := range []int{-1, 0, 1, 2, 3, 4, math.MinInt, math.MaxInt} {
		if got := b.List(loc); !slices.Equal(got, all) {
			t.Errorf("List(%d) %v", loc, got)
		}
	}
	b, _ = filled(api.MPSO, 2, 0, 2)
	for loc, want := range map[int][]api.Entry{0: all[1:2], 2: {all[0], all[2]}, -1: nil, 1: nil, 3: nil, 4: nil, math.MaxInt: nil} {
		if got := b.List(loc); !slices.Equal(got, want) {
			t.Errorf("List(%d) %v", loc, got)
		}
	}
}

// Rows of Put and Drop of one to four locations. All Bufs on the way stand at the
// end as they were.
func Test15_1RowsOfPutAndDrop(t *testing.T) {
	r := rand.New(rand.NewSource(151))
	for round := range 1200 {
		m, locs := models[round%2], 1+round/2%4
		bufs, plains := []Buf{New(m)}, []plain{{m: m}}
		for step := range 60 {
			b, p := bufs[step], plains[step]
			loc := r.Intn(locs)
			if r.Intn(40) == 0 {
				loc = around[r.Intn(len(around))]
			}
			// Some rounds fill a Buf to its end, some keep it almost empty.
			if r.Intn(6) < 2+round/8%3 {
				value := int64(r.Intn(5))
				b, p = b.Put(loc, value, step), p.put(loc, value, step)
			} else {
				b, p = b.Drop(loc), p.drop(loc)
			}
			hold(t, b, p, around)
			bufs, plains = append(bufs, b), append(plains, p)
		}
		for at := range bufs {
			hold(t, bufs[at], plains[at], around)
		}
	}
}

// grow goes through all rows of Put and Drop from b and p on.
func grow(t *testing.T, b Buf, p plain, locs, more int, see func(Buf, plain)) {
	hold(t, b, p, around)
	see(b, p)
	if more == 0 {
		return
	}
	for loc := range locs {
		grow(t, b.Drop(loc), p.drop(loc), locs, more-1, see)
		for value := range int64(2) {
			grow(t, b.Put(loc, value, 3), p.put(loc, value, 3), locs, more-1, see)
		}
	}
	hold(t, b, p, around)
}

// Bufs are one key just if nothing tells them apart, by whatever row of calls
// they were come to, dropped entries or not.
func Test15_1KeysOfAllRows(t *testing.T) {
	told, keys, rows := map[Buf]string{}, map[string]Buf{}, 0
	see := func(b Buf, p plain) {
		rows++
		s := p.told()
		if old, ok := told[b]; ok && old != s {
			t.Fatalf("one key is %s and %s", old, s)
		}
		if old, ok := keys[s]; ok && old != b {
			t.Fatalf("%s is two keys, %v and %v", s, old, b)
		}
		told[b], keys[s] = s, b
	}
	for _, m := range models {
		for locs, most := range map[int]int{1: 7, 2: 5, 3: 4, 4: 4} {
			grow(t, New(m), plain{m: m}, locs, most, see)
		}
	}
	if len(told) != len(keys) || len(told) < 1000 || rows < 10*len(told) {
		t.Error(len(told), len(keys), rows)
	}
}

func Test15_1HeldAgainstEachOther(t *testing.T) {
	for _, m := range models {
		b, _ := filled(m, 0, 1, 0)
		again, _ := filled(m, 0, 1, 0)
		first, _ := filled(m, 2)
		for _, dropped := range []Buf{
			first.Drop(2).Put(0, 10, 0).Put(1, 11, 1).Put(0, 12, 2),
			first.Put(0, 10, 0).Drop(2).Put(1, 11, 1).Put(0, 12, 2),
			first.Put(0, 10, 0).Put(1, 11, 1).Put(0, 12, 2).Drop(2),
		} {
			if b != again || b != dropped {
				t.Errorf("model %d: %v, %v and %v are not the same key", m, b, again, dropped)
			}
		}
		for name, other := range map[string]Buf{
			"value":    New(m).Put(0, 10, 0).Put(1, 11, 1).Put(0, 13, 2),
			"id":       New(m).Put(0, 10, 0).Put(1, 11, 1).Put(0, 12, 3),
			"location": New(m).Put(0, 10, 0).Put(1, 11, 1).Put(1, 12, 2),
			"one less": New(m).Put(0, 10, 0).Put(1, 11, 1),
			"one more": b.Put(2, 0, 0),
			"zeros":    b.Put(0, 0, 0),
			"turned":   New(m).Put(0, 12, 2).Put(1, 11, 1).Put(0, 10, 0),
		} {
			if b == other {
				t.Errorf("model %d: another %s is the same key", m, name)
			}
		}
		seen := map[[2]Buf]int{{b, New(m)}: 4}
		if seen[[2]Buf{again, b.Drop(0).Drop(0).Drop(1)}] != 4 || seen[[2]Buf{New(m), b}] != 0 {
			t.Errorf("model %d: no key beside others", m)
		}
	}
}

// With MPSO nothing tells which of two locations was put first; with MTSO it is
// told.
func Test15_1KeysOfTwoLocations(t *testing.T) {
	for _, m := range models {
		a := New(m).Put(0, 5, 1).Put(3, 6, 2).Put(0, 7, 3)
		b := New(m).Put(3, 6, 2).Put(0, 5, 1).Put(0, 7, 3)
		if (a == b) != (m == api.MPSO) {
			t.Errorf("model %d: %v and %v", m, a, b)
		}
	}
}

func Test15_1NoCallChangesABuf(t *testing.T) {
	for _, m := range models {
		for _, locs := range [][]int{{}, {0}, {3, 0, 3}, slices.Repeat([]int{0, 1, 2, 3}, 6)} {
			b, p := filled(m, locs...)
			kept := b
			for _, loc := range around {
				b.Put(loc, 99, 99).Put(0, 98, 98)
				b.Drop(loc).Drop(loc).Put(loc, 97, 97)
				b.Newest(loc)
				b.Oldest(loc)
				b.List(loc)
				b.Empty()
				b.Len()
				hold(t, b, p, around)
			}
			if b != kept {
				t.Errorf("model %d: %v is not %v", m, b, kept)
			}
		}
	}
}

// drain drops all of b, at locations that next tells, and is what came to memory.
func drain(t *testing.T, b Buf, next func() int) []api.Entry {
	t.Helper()
	var came []api.Entry
	for tries := 0; !b.Empty(); tries++ {
		if tries > 10_000 {
			t.Fatalf("%v never ends", b)
		}
		loc := next()
		if at, value, id, ok := b.Oldest(loc); ok {
			came = append(came, api.Entry{Loc: at, Value: value, ID: id})
		}
		b = b.Drop(loc)
	}
	return came
}

// of is the entries of l that are to loc.
func of(l []api.Entry, loc int) []api.Entry {
	return slices.DeleteFunc(slices.Clone(l), func(e api.Entry) bool { return e.Loc != loc })
}

// What was put first comes to memory first: with MTSO of all, with MPSO of each
// location, whatever the order is in which locations come.
func Test15_2FirstInFirstOut(t *testing.T) {
	r := rand.New(rand.NewSource(152))
	turned := 0
	for round := range 2000 {
		m := models[round%2]
		var locs []int
		for range r.Intn(25) {
			locs = append(locs, r.Intn(4))
		}
		b, p := filled(m, locs...)
		came := drain(t, b, func() int { return r.Intn(4) })
		if len(came) != len(locs) || m == api.MTSO && !slices.Equal(came, p.list) {
			t.Fatalf("model %d: %v came as %v", m, p.list, came)
		}
		for loc := range 4 {
			if !slices.Equal(of(came, loc), of(p.list, loc)) {
				t.Fatalf("model %d: %v came as %v", m, p.list, came)
			}
		}
		if !slices.Equal(came, p.list) {
			turned++
		}
	}
	if turned < 500 {
		t.Error(turned)
	}
}

// W4: each store that was put comes to memory once, and then nothing waits, also
// where some come while others are put.
func Test15_2EachComesOnce(t *testing.T) {
	r := rand.New(rand.NewSource(153))
	for round := range 1000 {
		m := models[round%2]
		b := New(m)
		var put, came []api.Entry
		for id := range 200 {
			loc := r.Intn(4)
			if at, value, old, ok := b.Oldest(loc); ok && r.Intn(2) == 0 {
				came = append(came, api.Entry{Loc: at, Value: value, ID: old})
				b = b.Drop(loc)
			} else if b.Len() < 24 {
				put = append(put, api.Entry{Loc: loc, Value: int64(id % 3), ID: id})
				b = b.Put(loc, int64(id%3), id)
			}
			if b.Len() != len(put)-len(came) || b.Empty() != (len(put) == len(came)) {
				t.Fatalf("model %d: %d wait of %d, and %d came", m, b.Len(), len(put), len(came))
			}
		}
		came = append(came, drain(t, b, func() int { return r.Intn(4) })...)
		for loc := range 4 {
			if len(came) != len(put) || !slices.Equal(of(came, loc), of(put, loc)) {
				t.Fatalf("model %d: %v came as %v", m, put, came)
			}
		}
		if m == api.MTSO && !slices.Equal(came, put) {
			t.Fatalf("%v came as %v", put, came)
		}
	}
}

// A thread sees its own last store until that has come to memory, and then none.
func Test15_2OwnStoresAreSeen(t *testing.T) {
	for _, m := range models {
		b, _ := filled(m, 2, 0, 2, 2)
		for _, want := range []int{3, 3, 3} {
			if _, id, ok := b.Newest(2); !ok || id != want {
				t.Fatalf("model %d: %v sees %d %v", m, b, id, ok)
			}
			b = b.Drop(2)
		}
		if m == api.MTSO {
			// One of those that were dropped was the one to 0.
			b = b.Drop(2)
		}
		if _, _, ok := b.Newest(2); ok {
			t.Fatalf("model %d: %v", m, b)
		}
		if _, _, ok := b.Newest(0); ok != (m == api.MPSO) {
			t.Fatalf("model %d: %v", m, b)
		}
	}
}
