package final

import (
	"math"
	"math/rand"
	"slices"
	"strconv"
	"strings"
	"testing"

	"jacquard/api"
	"jacquard/axiom"
	"jacquard/exec"
	"jacquard/num"
	"jacquard/print"
	"jacquard/prog"
	"jacquard/well"
)

const most, least = math.MaxInt64, math.MinInt64

func number(n int64) api.Operand { return api.Operand{Reg: -1, Value: n} }

func register(r int) api.Operand { return api.Operand{Reg: r} }

func ready(t *testing.T, test api.Test) api.Prog {
	t.Helper()
	p, code := prog.Compile(test)
	if code != api.OK {
		t.Fatal(code, print.Test(test))
	}
	return p
}

func compile(t *testing.T, body string) api.Prog {
	t.Helper()
	test, err := well.Read("test a { " + body + " }")
	if err.Code != api.OK {
		t.Fatalf("%q: %v", body, err)
	}
	return ready(t, test)
}

// candidates is all that exec.All tells of p.
func candidates(t *testing.T, p api.Prog) []api.Exec {
	t.Helper()
	all, ok := exec.All(p, 100_000)
	if !ok {
		t.Fatal("too many candidates:", p)
	}
	return all
}

// programs are what several tests go through.
var programs = []string{
	"thread { }",
	"thread { r0 = 1 ; } thread { }",
	"thread { r0 = load x ; }",
	"init { y = 4 ; } thread { fence ; store x 1 ; }",
	"thread { store x 1 ; r0 = load y ; } thread { store y 1 ; r0 = load x ; }",
	"thread { store x 1 ; store y 1 ; } thread { r0 = load y ; r1 = load x ; }",
	"thread { store x 1 ; store y 2 ; } thread { store y 1 ; store x 2 ; }",
	"thread { r0 = cas x 0 1 ; } thread { r0 = cas x 0 2 ; }",
	"thread { r3 = cas x 0 0 ; r1 = cas x 0 0 ; } thread { r2 = cas x 0 0 ; }",
	"thread { r0 = load x ; r0 = r0 + 1 ; store x r0 ; } thread { r0 = load x ; r0 = r0 + 1 ; store x r0 ; }",
	"thread { r0 = load x ; skip 1 if r0 == 0 ; store y 1 ; fence ; r1 = load y ; } thread { store x 1 ; r0 = load y ; }",
	"thread { store x 1 ; } thread { store x 2 ; } thread { store x 3 ; } thread { r0 = load x ; r3 = load x ; }",
	"init { x = 1 ; } thread { } thread { r0 = cas x 1 2 ; skip 1 if r0 == 1 ; store x 3 ; } thread { r0 = cas x 2 1 ; r1 = load x ; }",
	"init { x = 3 ; q = -7 ; } thread { store a 1 ; } thread { r1 = load q ; store q r1 ; } thread { r2 = load x ; } thread { store z 5 ; r3 = load a ; }",
}

// The ends of all candidates of small programs, as they stand.
func Test13_1Of(t *testing.T) {
	for body, want := range map[string][]string{
		"thread { store x 1 ; }":          {"0:r0=0 0:r1=0 0:r2=0 0:r3=0 x=1"},
		"thread { }":                      {"0:r0=0 0:r1=0 0:r2=0 0:r3=0"},
		"thread { fence ; }":              {"0:r0=0 0:r1=0 0:r2=0 0:r3=0"},
		"thread { } thread { r3 = -2 ; }": {"0:r0=0 0:r1=0 0:r2=0 0:r3=0 1:r0=0 1:r1=0 1:r2=0 1:r3=-2"},
		"init { x = 7 ; } thread { }":     {"0:r0=0 0:r1=0 0:r2=0 0:r3=0 x=7"},
		"thread { r0 = load x ; }":        {"0:r0=0 0:r1=0 0:r2=0 0:r3=0 x=0"},
		// What comes behind the last event is done too.
		"init { x = 5 ; } thread { r0 = load x ; r1 = r0 + 1 ; r0 = 9 ; }":        {"0:r0=9 0:r1=6 0:r2=0 0:r3=0 x=5"},
		"thread { r2 = 3 ; skip 1 if r2 == 3 ; r2 = 4 ; fence ; r1 = r2 << 2 ; }": {"0:r0=0 0:r1=12 0:r2=3 0:r3=0"},
		// A load of what the thread itself has stored, or of what was there.
		"init { x = -1 ; } thread { store x 1 ; r1 = load x ; }": {
			"0:r0=0 0:r1=-1 0:r2=0 0:r3=0 x=1",
			"0:r0=0 0:r1=1 0:r2=0 0:r3=0 x=1"},
		// Which of the stores stands last in CO, not which is done last.
		"thread { store x 1 ; store x 2 ; store x 3 ; }": {
			"0:r0=0 0:r1=0 0:r2=0 0:r3=0 x=1",
			"0:r0=0 0:r1=0 0:r2=0 0:r3=0 x=2",
			"0:r0=0 0:r1=0 0:r2=0 0:r3=0 x=3"},
		// A cas has what it read in its register, whether it wrote or not.
		"init { x = 4 ; } thread { r2 = cas x 4 6 ; }": {"0:r0=0 0:r1=0 0:r2=4 0:r3=0 x=6"},
		"init { x = 4 ; } thread { r2 = cas x 5 6 ; }": {"0:r0=0 0:r1=0 0:r2=4 0:r3=0 x=4"},
		"thread { r0 = cas x 0 1 ; } thread { r0 = cas x 0 2 ; }": {
			"0:r0=0 0:r1=0 0:r2=0 0:r3=0 1:r0=0 1:r1=0 1:r2=0 1:r3=0 x=1",
			"0:r0=0 0:r1=0 0:r2=0 0:r3=0 1:r0=0 1:r1=0 1:r2=0 1:r3=0 x=2",
			"0:r0=0 0:r1=0 0:r2=0 0:r3=0 1:r0=1 1:r1=0 1:r2=0 1:r3=0 x=1",
			"0:r0=2 0:r1=0 0:r2=0 0:r3=0 1:r0=0 1:r1=0 1:r2=0 1:r3=0 x=2"},
		// A skip hangs on what was read.
		"thread { r0 = load x ; skip 1 if r0 == 0 ; r1 = 8 ; r2 = 9 ; } thread { store x 5 ; }": {
			"0:r0=0 0:r1=0 0:r2=9 0:r3=0 1:r0=0 1:r1=0 1:r2=0 1:r3=0 x=5",
			"0:r0=5 0:r1=8 0:r2=9 0:r3=0 1:r0=0 1:r1=0 1:r2=0 1:r3=0 x=5"},
		// Four threads, each of which has a register of its own, and locations in
		// the order of their letters, not of their use.
		"init { d = 13 ; a = 10 ; c = 12 ; b = 11 ; } thread { r0 = load d ; } thread { r1 = load c ; } thread { r2 = load b ; } thread { r3 = load a ; }": {
			"0:r0=13 0:r1=0 0:r2=0 0:r3=0 1:r0=0 1:r1=12 1:r2=0 1:r3=0 2:r0=0 2:r1=0 2:r2=11 2:r3=0 3:r0=0 3:r1=0 3:r2=0 3:r3=10 a=10 b=11 c=12 d=13"},
		"thread { store z 1 ; } thread { store y 2 ; } thread { store x 3 ; } thread { store w 4 ; r0 = load w ; fence ; }": {
			"0:r0=0 0:r1=0 0:r2=0 0:r3=0 1:r0=0 1:r1=0 1:r2=0 1:r3=0 2:r0=0 2:r1=0 2:r2=0 2:r3=0 3:r0=0 3:r1=0 3:r2=0 3:r3=0 w=4 x=3 y=2 z=1",
			"0:r0=0 0:r1=0 0:r2=0 0:r3=0 1:r0=0 1:r1=0 1:r2=0 1:r3=0 2:r0=0 2:r1=0 2:r2=0 2:r3=0 3:r0=4 3:r1=0 3:r2=0 3:r3=0 w=4 x=3 y=2 z=1"},
		// The smallest and the greatest numbers, which wrap.
		"init { x = 9223372036854775807 ; } thread { r0 = load x ; r1 = r0 + 1 ; store y r1 ; store z -9223372036854775808 ; r2 = r1 - 1 ; }": {
			"0:r0=9223372036854775807 0:r1=-9223372036854775808 0:r2=9223372036854775807 0:r3=0 x=9223372036854775807 y=-9223372036854775808 z=-9223372036854775808"},
	} {
		p := compile(t, body)
		var got []string
		for _, f := range Sort(endsOf(p, candidates(t, p))) {
			got = append(got, Text(p, f))
		}
		if !slices.Equal(got, want) {
			t.Errorf("%q:\n%s\nwant\n%s", body, strings.Join(got, "\n"), strings.Join(want, "\n"))
		}
	}
}

func endsOf(p api.Prog, all []api.Exec) []api.Final {
	var l []api.Final
	for _, x := range all {
		l = append(l, Of(p, x))
	}
	return l
}

// Where the program has no thread or no location, there is 0.
func Test13_1OfHasNothingBehind(t *testing.T) {
	const thread = "thread { r0 = 1 ; r1 = 2 ; r2 = 3 ; r3 = 4 ; } "
	for n := 1; n <= 4; n++ {
		for locs := range 5 {
			body := "init { "
			want := api.Final{}
			for loc := range locs {
				body += "wxyz"[loc:loc+1] + " = " + strconv.Itoa(loc-5) + " ; "
				want.Mem[loc] = int64(loc - 5)
			}
			for k := range n {
				want.Regs[k] = [4]int64{1, 2, 3, 4}
			}
			p := compile(t, body+"} "+strings.Repeat(thread, n))
			all := candidates(t, p)
			if len(all) != 1 || Of(p, all[0]) != want {
				t.Errorf("%d threads, %d locations: %v, want %v", n, locs, endsOf(p, all), want)
			}
		}
	}
}

// anyTest makes small tests in which threads often meet.
func anyTest(r *rand.Rand, threads, length int) api.Test {
	locs := "xyza"[:1+r.Intn(4)]
	operand := func() api.Operand {
		if r.Intn(3) > 0 {
			return number([]int64{0, 0, 1, 1, 2, -1, most, least}[r.Intn(8)])
		}
		return register(r.Intn(4))
	}
	t := api.Test{Name: "a"}
	for _, place := range r.Perm(len(locs))[:r.Intn(len(locs)+1)] {
		t.Init = append(t.Init, api.Init{Loc: int(locs[place]), Value: int64(r.Intn(5) - 2)})
	}
	for range 1 + r.Intn(threads) {
		list := make([]api.Ins, r.Intn(length+1))
		for at := range list {
			list[at] = anyIns(r, operand, int(locs[r.Intn(len(locs))]), len(list)-at-1)
		}
		t.Threads = append(t.Threads, list)
	}
	return t
}

// anyIns has left instructions behind it.
func anyIns(r *rand.Rand, operand func() api.Operand, loc, left int) api.Ins {
	switch kind := r.Intn(11); {
	case kind < 3:
		return api.Ins{Kind: api.IStore, Loc: loc, A: operand()}
	case kind < 6:
		return api.Ins{Kind: api.ILoad, Reg: r.Intn(4), Loc: loc}
	case kind < 8:
		return api.Ins{Kind: api.ICas, Reg: r.Intn(4), Loc: loc, A: operand(), B: operand()}
	case kind == 8:
		return api.Ins{Kind: api.IFence}
	case kind == 9 && left > 0:
		return api.Ins{Kind: api.ISkip, A: operand(), B: operand(), N: 1 + r.Intn(left)}
	}
	i := api.Ins{Kind: api.ISet, Reg: r.Intn(4), A: operand(), B: number(0)}
	if i.Op = r.Intn(7); i.Op > 0 {
		i.B = operand()
	}
	return i
}

// of is the number that o is where regs stand.
func of(o api.Operand, regs [4]int64) int64 {
	if o.Reg == -1 {
		return o.Value
	}
	return regs[o.Reg]
}

// set is what an ISet comes to.
func set(i api.Ins, regs [4]int64) int64 {
	n, ok := num.Do(i.Op, of(i.A, regs), of(i.B, regs))
	if !ok {
		return of(i.A, regs)
	}
	return n
}

// endOf is a second reckoning of Of: it goes through each thread by hand, and
// what is read is looked up at the write that RF leads to, not in R.
func endOf(p api.Prog, x api.Exec) api.Final {
	var f api.Final
	for k, list := range p.Threads {
		var events []int
		for at, e := range x.Evs {
			if e.T == k {
				events = append(events, at)
			}
		}
		for pc := 0; pc < len(list); pc++ {
			i := list[pc]
			switch i.Kind {
			case api.ISet:
				f.Regs[k][i.Reg] = set(i, f.Regs[k])
				continue
			case api.ISkip:
				if of(i.A, f.Regs[k]) == of(i.B, f.Regs[k]) {
					pc += i.N
				}
				continue
			case api.ILoad, api.ICas:
				f.Regs[k][i.Reg] = x.Evs[x.RF[events[0]]].W
			}
			events = events[1:]
		}
	}
	for at, e := range x.Evs {
		if (e.Kind == 2 || e.Kind == 4) && x.CO[e.Loc][len(x.CO[e.Loc])-1] == at {
			f.Mem[e.Loc] = e.W
		}
	}
	return f
}

// Every candidate of any program, by the second reckoning.
func Test13_1OfAny(t *testing.T) {
	r := rand.New(rand.NewSource(131))
	threads, locs, kinds := map[int]int{}, map[int]int{}, map[int]int{}
	for range 3000 {
		p := ready(t, anyTest(r, 4, 5))
		all, ok := exec.All(p, 500)
		if !ok {
			continue
		}
		for _, x := range all {
			if got, want := Of(p, x), endOf(p, x); got != want {
				t.Fatalf("%v\n%s\n%s\nwant\n%s", p, exec.Text(x), Text(p, got), Text(p, want))
			}
			for _, e := range x.Evs {
				kinds[e.Kind]++
			}
		}
		threads[len(p.Threads)]++
		locs[len(p.Locs)]++
	}
	for n := 1; n <= 4; n++ {
		if threads[n] < 200 || locs[n] < 200 {
			t.Error("too few:", threads, locs)
		}
	}
	for kind := 1; kind <= 5; kind++ {
		if kinds[kind] < 1000 {
			t.Error("too few:", kinds)
		}
	}
}

// plain is a machine that does each step at once, a thread after another in
// every order.
type plain struct {
	p    api.Prog
	ends map[api.Final]int
}

// state is where each thread of a plain machine is, and what it has come to.
type state struct {
	pc [4]int
	f  api.Final
}

func (m plain) from(s state) {
	done := true
	for k, list := range m.p.Threads {
		if s.pc[k] < len(list) {
			done = false
			m.from(step(list[s.pc[k]], k, s))
		}
	}
	if done {
		m.ends[s.f]++
	}
}

func step(i api.Ins, k int, s state) state {
	regs := s.f.Regs[k]
	s.pc[k]++
	switch i.Kind {
	case api.ISet:
		s.f.Regs[k][i.Reg] = set(i, regs)
	case api.ISkip:
		if of(i.A, regs) == of(i.B, regs) {
			s.pc[k] += i.N
		}
	case api.IStore:
		s.f.Mem[i.Loc] = of(i.A, regs)
	case api.ILoad:
		s.f.Regs[k][i.Reg] = s.f.Mem[i.Loc]
	case api.ICas:
		s.f.Regs[k][i.Reg] = s.f.Mem[i.Loc]
		if s.f.Mem[i.Loc] == of(i.A, regs) {
			s.f.Mem[i.Loc] = of(i.B, regs)
		}
	}
	return s
}

// W2: the ends of the executions that are MSC's are those of a machine that
// knows nothing of executions, and no others.
func Test13_1OfIsWhatAMachineComesTo(t *testing.T) {
	r := rand.New(rand.NewSource(132))
	var list []api.Prog
	for _, body := range programs {
		list = append(list, compile(t, body))
	}
	for range 400 {
		list = append(list, ready(t, anyTest(r, 3, 4)))
	}
	several := 0
	for _, p := range list {
		all, ok := axiom.All(p, api.MSC, 2000)
		if !ok {
			continue
		}
		m := plain{p, map[api.Final]int{}}
		begin := state{}
		copy(begin.f.Mem[:], p.Init)
		m.from(begin)
		got := Sort(endsOf(p, all))
		if len(got) != len(m.ends) {
			t.Fatalf("%v: %d ends, want %d", p, len(got), len(m.ends))
		}
		for _, f := range got {
			if m.ends[f] == 0 {
				t.Fatalf("%v: no machine comes to %s", p, Text(p, f))
			}
		}
		if len(got) > 1 {
			several++
		}
	}
	if several < 50 {
		t.Error("only", several, "with more than one end")
	}
}

// flat is all numbers of f in the order in which they are held against another's.
func flat(f api.Final) []int64 {
	var l []int64
	for k := range 4 {
		for reg := range 4 {
			l = append(l, f.Regs[k][reg])
		}
	}
	for loc := range 4 {
		l = append(l, f.Mem[loc])
	}
	return l
}

// end is the Final that is flat so; l may be shorter.
func end(l ...int64) api.Final {
	var f api.Final
	for at, n := range l {
		if at < 16 {
			f.Regs[at/4][at%4] = n
		} else {
			f.Mem[at-16] = n
		}
	}
	return f
}

// only is the Final whose number at that place is n, and all others 0.
func only(at int, n int64) api.Final {
	l := make([]int64, 20)
	l[at] = n
	return end(l...)
}

// before is a second reckoning of Less: -1, 0 or 1.
func before(a, b api.Final) int {
	k, l := flat(a), flat(b)
	for at := range k {
		if k[at] < l[at] {
			return -1
		}
		if k[at] > l[at] {
			return 1
		}
	}
	return 0
}

func holdOrder(t *testing.T, a, b api.Final, want int) {
	t.Helper()
	if Less(a, b) != (want < 0) || Less(b, a) != (want > 0) {
		t.Fatalf("%v\n%v\n%v %v, want %d", a, b, Less(a, b), Less(b, a), want)
	}
}

// Each number parts two that are the same ahead of it, whatever comes behind it.
func Test13_1LessByEachNumber(t *testing.T) {
	rising := []int64{least, least + 1, -1 << 32, -256, -2, -1, 0, 1, 2, 255, 256, 1 << 31, 1 << 32, 1<<32 + 1, most - 1, most}
	for at := range 20 {
		for _, ahead := range []int64{0, 7, least, most} {
			for i, m := range rising {
				for k, n := range rising {
					a, b := make([]int64, 20), make([]int64, 20)
					for j := range at {
						a[j], b[j] = ahead, ahead
					}
					a[at], b[at] = m, n
					if i != k {
						for j := at + 1; j < 20; j++ {
							// What stands behind says otherwise.
							a[j], b[j] = n, m
						}
					}
					want := 0
					if i < k {
						want = -1
					} else if i > k {
						want = 1
					}
					holdOrder(t, end(a...), end(b...), want)
				}
			}
		}
	}
}

func Test13_1Less(t *testing.T) {
	rising := []api.Final{
		{Regs: [4][4]int64{{least, 9, 9, 9}, {9, 9, 9, 9}}, Mem: [4]int64{9, 9, 9, 9}},
		{Regs: [4][4]int64{{-1}}, Mem: [4]int64{9}},
		{Regs: [4][4]int64{{0, 0, 0, -1}}, Mem: [4]int64{9}},
		{Regs: [4][4]int64{{}, {-1}}},
		{Regs: [4][4]int64{{}, {}, {}, {0, 0, 0, -1}}},
		{Mem: [4]int64{-1, 5}},
		{Mem: [4]int64{0, 0, 0, least}},
		{},
		{Mem: [4]int64{0, 0, 0, 1}},
		{Mem: [4]int64{0, 0, 1}},
		{Mem: [4]int64{0, 1}},
		{Mem: [4]int64{1}},
		{Mem: [4]int64{most, most, most, most}},
		{Regs: [4][4]int64{{}, {}, {}, {0, 0, 0, 1}}},
		{Regs: [4][4]int64{{}, {}, {}, {1}}},
		{Regs: [4][4]int64{{}, {}, {0, 0, 0, 1}}},
		{Regs: [4][4]int64{{}, {1}}},
		{Regs: [4][4]int64{{0, 0, 0, 1}, {-5}}},
		{Regs: [4][4]int64{{0, 1}}},
		{Regs: [4][4]int64{{1, -1}}},
		{Regs: [4][4]int64{{1}}},
		{Regs: [4][4]int64{{most, least}}},
	}
	for i, a := range rising {
		for k, b := range rising {
			holdOrder(t, a, b, before(end(int64(i)), end(int64(k))))
		}
	}
}

// anyEnd parts from others of its kind in few numbers, early or late.
func anyEnd(r *rand.Rand) api.Final {
	l := make([]int64, 20)
	for range r.Intn(4) {
		l[r.Intn(20)] = []int64{least, -1, 0, 1, 2, most}[r.Intn(6)]
	}
	return end(l...)
}

func Test13_1LessOfAny(t *testing.T) {
	r := rand.New(rand.NewSource(133))
	count := map[int]int{}
	for range 50000 {
		a, b, c := anyEnd(r), anyEnd(r), anyEnd(r)
		want := before(a, b)
		holdOrder(t, a, b, want)
		holdOrder(t, a, a, 0)
		if Less(a, b) && Less(b, c) && !Less(a, c) {
			t.Fatal(a, b, c)
		}
		count[want]++
	}
	if count[-1] < 1000 || count[0] < 1000 || count[1] < 1000 {
		t.Error(count)
	}
}

// listed is those of l that none of out is, each once, rising: each is put into
// its place, one after the other.
func listed(l, out []api.Final) []api.Final {
	var sorted []api.Final
	for _, f := range l {
		at, same := 0, false
		for at < len(sorted) && before(sorted[at], f) < 0 {
			at++
		}
		for _, other := range slices.Concat(out, sorted) {
			same = same || before(other, f) == 0
		}
		if !same {
			sorted = slices.Insert(sorted, at, f)
		}
	}
	return sorted
}

func holdList(t *testing.T, call string, got, want []api.Final) {
	t.Helper()
	if !slices.Equal(got, want) {
		t.Fatalf("%s: %v\nwant %v", call, got, want)
	}
}

func Test13_1Sort(t *testing.T) {
	a, b, c, d := end(least), end(-1, most), end(), only(19, 1)
	for name, x := range map[string]struct{ l, want []api.Final }{
		"nil":                 {nil, nil},
		"empty":               {[]api.Final{}, nil},
		"one":                 {[]api.Final{b}, []api.Final{b}},
		"one, the zero":       {[]api.Final{{}}, []api.Final{{}}},
		"one, more than once": {[]api.Final{d, d, d}, []api.Final{d}},
		"rising":              {[]api.Final{a, b, c, d}, []api.Final{a, b, c, d}},
		"falling":             {[]api.Final{d, c, b, a}, []api.Final{a, b, c, d}},
		"each twice":          {[]api.Final{d, a, c, b, b, d, a, c}, []api.Final{a, b, c, d}},
		"side by side":        {[]api.Final{a, a, b, b, c, c}, []api.Final{a, b, c}},
		"far apart":           {[]api.Final{c, a, b, d, c}, []api.Final{a, b, c, d}},
	} {
		holdList(t, name, Sort(x.l), x.want)
		holdList(t, name, Minus(x.l, nil), x.want)
		holdList(t, name, Minus(x.l, []api.Final{}), x.want)
	}
}

func Test13_1Has(t *testing.T) {
	l := []api.Final{end(4), end(), only(19, -1), end(4), end(least), end(most)}
	for _, f := range l {
		if !Has(l, f) || Has(nil, f) || Has([]api.Final{}, f) || !Has([]api.Final{f}, f) {
			t.Error(f)
		}
	}
	for _, f := range []api.Final{end(3), end(0, 4), only(19, 1), only(16, 4), only(18, -1), end(least + 1), api.Final{Regs: [4][4]int64{{4}}, Mem: [4]int64{0, 0, 0, -1}}} {
		if Has(l, f) {
			t.Error(f)
		}
	}
	// What is alike but in one number is not the same.
	for at := range 20 {
		if f := only(at, 1); Has([]api.Final{{}, end(2)}, f) || !Has([]api.Final{{}, f}, f) {
			t.Error(at)
		}
	}
	// At each place of a row.
	for n := range 6 {
		row := make([]api.Final, 6)
		row[n] = only(16, 5)
		if !Has(row, only(16, 5)) {
			t.Error(n)
		}
	}
}

func Test13_1Minus(t *testing.T) {
	a, b, c, d := end(least), end(-1, most), end(), only(19, 1)
	for name, x := range map[string]struct{ a, b, want []api.Final }{
		"none of none":        {nil, nil, nil},
		"none of empty":       {[]api.Final{}, []api.Final{}, nil},
		"some of none":        {nil, []api.Final{a, b}, nil},
		"none of some":        {[]api.Final{d, b, a}, nil, []api.Final{a, b, d}},
		"all":                 {[]api.Final{d, b, a}, []api.Final{a, b, d}, nil},
		"all, and more":       {[]api.Final{d, b}, []api.Final{a, b, c, d}, nil},
		"some":                {[]api.Final{d, c, b, a}, []api.Final{c, a}, []api.Final{b, d}},
		"the zero alone":      {[]api.Final{d, {}, a}, []api.Final{{}}, []api.Final{a, d}},
		"others":              {[]api.Final{d, a}, []api.Final{c, b}, []api.Final{a, d}},
		"left more than once": {[]api.Final{d, a, d, a, d}, []api.Final{c}, []api.Final{a, d}},
		"out more than once":  {[]api.Final{d, a, d, c, c}, []api.Final{c, d, c, d}, []api.Final{a}},
	} {
		holdList(t, name, Minus(x.a, x.b), x.want)
	}
}

func Test13_1ListsOfAny(t *testing.T) {
	r := rand.New(rand.NewSource(134))
	list := func() []api.Final {
		l := make([]api.Final, r.Intn(12))
		for at := range l {
			l[at] = end([]int64{-1, 0, 1}[r.Intn(3)], []int64{least, most}[r.Intn(2)])
			if r.Intn(2) == 0 {
				l[at] = anyEnd(r)
			}
		}
		return l
	}
	shared := 0
	for range 20000 {
		a, b := list(), list()
		if r.Intn(2) == 0 {
			b = append(b, a[:r.Intn(len(a)+1)]...)
		}
		holdList(t, "Sort", Sort(a), listed(a, nil))
		rest := Minus(a, b)
		holdList(t, "Minus", rest, listed(a, b))
		for _, f := range a {
			if !Has(a, f) || Has(rest, f) == Has(b, f) {
				t.Fatal(a, b, f)
			}
		}
		for _, f := range b {
			if want := slices.ContainsFunc(a, func(g api.Final) bool { return before(f, g) == 0 }); Has(a, f) != want {
				t.Fatal(a, f, want)
			}
		}
		if len(rest) > 0 && len(rest) < len(Sort(a)) {
			shared++
		}
	}
	if shared < 1000 {
		t.Error(shared)
	}
}

func Test13_1Text(t *testing.T) {
	f := end(1, -2, 3, -4, 5, 6, 7, 8, 9, 10, 11, 12, 13, 14, most, least, -17, 18, least, most)
	regs := []string{
		"0:r0=1 0:r1=-2 0:r2=3 0:r3=-4",
		"1:r0=5 1:r1=6 1:r2=7 1:r3=8",
		"2:r0=9 2:r1=10 2:r2=11 2:r3=12",
		"3:r0=13 3:r1=14 3:r2=9223372036854775807 3:r3=-9223372036854775808",
	}
	mem := []string{"=-17", "=18", "=-9223372036854775808", "=9223372036854775807"}
	for n := range 5 {
		for locs := range 5 {
			for _, letters := range []string{"abcd", "wxyz", "amqz"} {
				p := api.Prog{Locs: []byte(letters[:locs]), Init: make([]int64, locs), Threads: make([][]api.Ins, n)}
				want := slices.Clone(regs[:n])
				for loc := range locs {
					want = append(want, letters[loc:loc+1]+mem[loc])
				}
				if got := Text(p, f); got != strings.Join(want, " ") {
					t.Errorf("%d threads, %d locations: %q, want %q", n, locs, got, want)
				}
			}
		}
	}
}

// What a thread does has no part in the text, nor has what a location begins
// with.
func Test13_1TextIsOfTheEnd(t *testing.T) {
	p := compile(t, "init { x = 7 ; k = 3 ; } thread { r0 = 5 ; store x 1 ; } thread { r0 = load k ; }")
	const none = "0:r0=0 0:r1=0 0:r2=0 0:r3=0 1:r0=0 1:r1=0 1:r2=0 1:r3=0 k=0 x=0"
	if got := Text(p, api.Final{}); got != none {
		t.Errorf("%q", got)
	}
	// What the program has no thread and no location for is not told.
	if got := Text(p, api.Final{Regs: [4][4]int64{2: {1}, 3: {3: 2}}, Mem: [4]int64{2: 3, 3: 4}}); got != none {
		t.Errorf("%q", got)
	}
}

// textOf is a second reckoning of Text.
func textOf(p api.Prog, f api.Final) string {
	var parts []string
	for k := range p.Threads {
		for reg := range 4 {
			parts = append(parts, strconv.Itoa(k)+":r"+strconv.Itoa(reg)+"="+strconv.FormatInt(f.Regs[k][reg], 10))
		}
	}
	for loc, letter := range p.Locs {
		parts = append(parts, string(rune(letter))+"="+strconv.FormatInt(f.Mem[loc], 10))
	}
	return strings.Join(parts, " ")
}

func Test13_1TextOfAny(t *testing.T) {
	r := rand.New(rand.NewSource(135))
	for range 5000 {
		p := ready(t, anyTest(r, 4, 3))
		l := make([]int64, 20)
		for at := range l {
			l[at] = int64(r.Uint64()) >> r.Intn(64)
		}
		f := end(l...)
		if got, want := Text(p, f), textOf(p, f); got != want {
			t.Fatalf("%q, want %q", got, want)
		}
	}
}

// In whatever order ends come, and however often, they are told in one.
func Test13_2OneOrder(t *testing.T) {
	r := rand.New(rand.NewSource(136))
	for _, body := range programs {
		p := compile(t, body)
		l := endsOf(p, candidates(t, p))
		want := Sort(l)
		for at, f := range want {
			if at > 0 && !Less(want[at-1], f) {
				t.Fatalf("%q: %s is not ahead of %s", body, Text(p, want[at-1]), Text(p, f))
			}
			if !Has(l, f) {
				t.Fatalf("%q: %s is no end", body, Text(p, f))
			}
		}
		for _, f := range l {
			if !Has(want, f) {
				t.Fatalf("%q: %s is left out", body, Text(p, f))
			}
		}
		for range 30 {
			r.Shuffle(len(l), func(i, k int) { l[i], l[k] = l[k], l[i] })
			more := append(slices.Clone(l), l[:r.Intn(len(l)+1)]...)
			holdList(t, body, Sort(more), want)
			holdList(t, body, Sort(want), want)
			cut := r.Intn(len(l) + 1)
			holdList(t, body, Minus(more, l[:cut]), Minus(want, Sort(l[:cut])))
			holdList(t, body, Minus(more, l[:cut]), listed(l, l[:cut]))
		}
	}
}

// All orders of a few ends, and one call after the other.
func Test13_2EveryOrder(t *testing.T) {
	want := []api.Final{end(least), end(-1), only(16, -1), end(), only(19, 1), only(15, 1)}
	var orders func(row, rest []api.Final)
	orders = func(row, rest []api.Final) {
		if len(rest) == 0 {
			holdList(t, "Sort", Sort(row), want)
			holdList(t, "Minus", Minus(row, row[:2]), listed(want, row[:2]))
			return
		}
		for at, f := range rest {
			orders(append(slices.Clone(row), f), slices.Delete(slices.Clone(rest), at, at+1))
		}
	}
	orders(nil, want)
}

// Less, and so Sort, is by numbers, not by texts.
func Test13_2ByNumbers(t *testing.T) {
	l := []api.Final{end(10), end(9), end(-10), end(-9), end(100), end(0)}
	holdList(t, "Sort", Sort(l), []api.Final{end(-10), end(-9), end(0), end(9), end(10), end(100)})
}
