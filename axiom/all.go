package axiom

import (
	"slices"
	"sort"

	"jacquard/api"
	"jacquard/event"
	"jacquard/exec"
	"jacquard/fit"
	"jacquard/prog"
	"jacquard/set"
)

// limit is the most executions that All tells.
const limit = 100_000

// What a thread leaves open when it goes on, the least first.
const (
	// late has waited for a write, and one has come. It goes first: if it can't
	// read that one, nothing else need be tried.
	late = iota
	// plain does not read.
	plain
	// closed reads, and all that it may read is there.
	closed
	// open reads what is there, or what is yet to come.
	open
	// ended has nothing to do, or waits.
	ended
)

// search gathers all executions of a program that a model lets be.
type search struct {
	p     api.Prog
	m     int
	most  int
	inits []api.Ev
	found []api.Exec
}

// All is all executions of p that the model m lets be, in the order of
// exec.Less; false and none if there are more than most.
//
// Those of exec.All may be far more, so All does not pick from them. Executions
// grow event by event, and one that m does not let be is left at once: a cycle
// stays one. Each other one can be ended: whatever is left of it can be added,
// if it reads the last write of its location, and writes behind it. So nothing is
// followed in vain, but where a thread waits for a write that is then skipped.
func All(p api.Prog, m int, most int) ([]api.Exec, bool) {
	if !isModel(m) {
		return nil, true
	}
	if !fit.Prog(p) {
		return nil, false
	}
	s := &search{p: p, m: m, most: min(max(most, 0), limit), inits: event.Inits(p)}
	if !s.grow(s.first()) {
		return nil, false
	}
	sort.Slice(s.found, func(a, b int) bool { return exec.Less(s.found[a], s.found[b]) })
	return s.found, true
}

// first is the weave that has nothing but the beginning.
func (s *search) first() *weave {
	w := &weave{}
	for loc := range s.inits {
		w.co[loc] = []int{loc}
	}
	for t := range s.p.Threads {
		w.threads[t] = s.unfold(t, nil)
	}
	return w
}

// unfold is thread t when it has read reads, and nothing of it is woven in.
func (s *search) unfold(t int, reads []int64) thread {
	var k thread
	k.evs, k.end, k.more = event.Unfold(s.p, t, reads)
	if k.more {
		i, _ := prog.Next(s.p, t, k.end)
		k.loc = i.Loc
	}
	return k
}

// grow goes on with w in all ways; false as soon as more than most executions
// are found. Whose turn it is hangs on w alone, and no execution can be come to
// in two ways from there; so each is found once.
func (s *search) grow(w *weave) bool {
	if s.stuck(w) {
		return true
	}
	t, ok := s.turn(w)
	if !ok {
		return s.keep(w)
	}
	if k := w.threads[t]; k.done < len(k.evs) {
		return s.join(w, step{t: t, k: k, from: nowhere})
	}
	return s.read(w, t)
}

// stuck tells if a thread waits for a write that can't come any more.
func (s *search) stuck(w *weave) bool {
	all, able := s.threads(), set.Set(0)
	for before := all; able != before; {
		before = able
		for t := range members(all) {
			if k := w.threads[t]; !w.waits(k) || s.mayWrite(w, able, k.loc) {
				able = able.With(t)
			}
		}
	}
	return able != all
}

func (s *search) threads() set.Set {
	return set.Upto(len(s.p.Threads))
}

// mayWrite tells if one of threads has a write of loc ahead of it. It may still
// leave it out: what it skips hangs on what it reads.
func (s *search) mayWrite(w *weave, threads set.Set, loc int) bool {
	for t := range members(threads) {
		k := w.threads[t]
		for _, e := range k.evs[k.done:] {
			if event.Writes(e) && e.Loc == loc {
				return true
			}
		}
		if k.more && writesTo(s.p.Threads[t][k.end.PC:], loc) {
			return true
		}
	}
	return false
}

// writesTo tells if one of list could write loc.
func writesTo(list []api.Ins, loc int) bool {
	for _, i := range list {
		if (i.Kind == api.IStore || i.Kind == api.ICas) && i.Loc == loc {
			return true
		}
	}
	return false
}

// turn is the thread that goes on: the first of those that leave least open;
// false if all are ended.
func (s *search) turn(w *weave) (int, bool) {
	first, least := 0, ended
	for t := range members(s.threads()) {
		if n := s.leaves(w, t); n < least {
			first, least = t, n
		}
	}
	return first, least != ended
}

// leaves is what thread t leaves open.
func (s *search) leaves(w *weave, t int) int {
	k := w.threads[t]
	switch {
	case !w.goesOn(k):
		return ended
	case k.passed != 0:
		return late
	case k.done < len(k.evs):
		return plain
	case !s.mayWrite(w, s.threads().Without(t), k.loc):
		return closed
	}
	return open
}

// read goes on with thread t, which reads: from a write that is there, or from
// one that is yet to come.
func (s *search) read(w *weave, t int) bool {
	k := w.threads[t]
	fresh := w.fresh(k)
	for from := range members(fresh &^ w.stale(t, k)) {
		then := s.unfold(t, append(readBy(k.evs), s.event(w, from).W))
		then.done = k.done
		if !s.join(w, step{t: t, k: then, from: from}) {
			return false
		}
	}
	next := *w
	next.threads[t].passed |= fresh
	return s.grow(&next)
}

// readBy is what is read, one after the other.
func readBy(evs []api.Ev) []int64 {
	var reads []int64
	for _, e := range evs {
		if event.Reads(e) {
			reads = append(reads, e.R)
		}
	}
	return reads
}

// event is the event of a number.
func (s *search) event(w *weave, n int) api.Ev {
	if n < api.MaxLocs {
		return s.inits[n]
	}
	t, i := placeOf(n)
	return w.threads[t].evs[i]
}

// join goes on with a step, at each place in CO where it may stand. Atomic need
// not be asked: whatever comes between closes a cycle of co and fr.
func (s *search) join(w *weave, a step) bool {
	e := a.event()
	if !event.Writes(e) {
		return s.put(w, a)
	}
	for a.at = 1; a.at <= len(w.co[e.Loc]); a.at++ {
		if !s.put(w, a) {
			return false
		}
	}
	return true
}

// put goes on with a step, unless that closes a cycle.
func (s *search) put(w *weave, a step) bool {
	ahead, behind := w.around(a)
	ahead |= a.kept(s.m)
	if event.Reads(a.event()) && unlike(s.event(w, a.from), a.event()) {
		ahead = ahead.With(a.from)
	}
	ahead = w.trail.to(ahead)
	if ahead&behind != 0 {
		return true
	}
	next := w.with(a)
	next.trail.add(a.number(), ahead, behind)
	return s.grow(&next)
}

// keep keeps w, to which nothing is left to add; false if it is one too many.
func (s *search) keep(w *weave) bool {
	if len(s.found) == s.most {
		return false
	}
	s.found = append(s.found, s.told(w))
	return true
}

// told is w as an execution.
func (s *search) told(w *weave) api.Exec {
	x := api.Exec{Evs: s.events(w), CO: make([][]int, len(s.inits))}
	var places [room]int
	for at, e := range x.Evs {
		n := e.Loc
		if e.T != beginning {
			n = numberOf(e.T, e.I)
		}
		places[n] = at
	}
	x.RF = slices.Repeat([]int{nowhere}, len(x.Evs))
	for n, readers := range w.readers {
		for reader := range members(readers) {
			x.RF[places[reader]] = places[n]
		}
	}
	for loc := range x.CO {
		x.CO[loc] = slices.Clone(w.co[loc])
		for at, n := range x.CO[loc] {
			x.CO[loc][at] = places[n]
		}
	}
	return x
}

// events is the beginning, and then what each thread does.
func (s *search) events(w *weave) []api.Ev {
	lists := [][]api.Ev{s.inits}
	for _, k := range w.threads {
		lists = append(lists, k.evs)
	}
	return slices.Concat(lists...)
}
