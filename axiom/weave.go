package axiom

import (
	"iter"
	"slices"

	"jacquard/api"
	"jacquard/event"
	"jacquard/set"
)

// nowhere is the RF of an event that does not read.
const nowhere = -1

// room is how many events of a weave have a number: those of the beginning have
// that of their location, then come as many for each thread as it can have. The
// number of an event is the same in all weaves, and a bit in words.
const room = api.MaxLocs + api.MaxThreads*api.MaxIns

func numberOf(t, i int) int {
	return api.MaxLocs + t*api.MaxIns + i
}

// placeOf is the thread and the event of a number that is not of the beginning.
func placeOf(n int) (t, i int) {
	n -= api.MaxLocs
	return n / api.MaxIns, n % api.MaxIns
}

// members is the numbers of s, rising.
func members(s set.Set) iter.Seq[int] {
	return func(yield func(int) bool) {
		for ; s != 0; s = s.Without(s.First()) {
			if !yield(s.First()) {
				return
			}
		}
	}
}

// thread is how far a thread has come.
type thread struct {
	// evs is all that it does with what it has read, done how many of that are
	// woven in.
	evs  []api.Ev
	done int
	// more tells if it reads behind evs: at end, from loc.
	end  api.Local
	more bool
	loc  int
	// passed is the writes that its next read does not read from.
	passed set.Set
}

// weave is an execution in the making: of each thread the events that it does
// first. Where it can go on in several ways it is copied, so what a list of it
// holds is never changed.
type weave struct {
	threads [api.MaxThreads]thread
	readers [room]set.Set
	co      [api.MaxLocs][]int
	// trail is what the model asks to be acyclic.
	trail trail
}

// trail is a relation that is its own Closure, the other way round: the row of
// an event has all that lead to it.
type trail [room]set.Set

// step is the next event of thread t, which is then k. It reads from from, and
// stands in CO at at.
type step struct {
	t    int
	k    thread
	from int
	at   int
}

func (a step) event() api.Ev {
	return a.k.evs[a.k.done]
}

func (a step) number() int {
	return numberOf(a.t, a.k.done)
}

// kept is the events of its thread that m keeps ahead of a, but for those that
// only a fence between keeps there: they lead to the fence, and that to a.
func (a step) kept(m int) set.Set {
	events := set.Set(0)
	for i, e := range a.k.evs[:a.k.done] {
		if !loose(m, e, a.event()) {
			events = events.With(numberOf(a.t, i))
		}
	}
	return events
}

// goesOn tells if the thread k has something to do that need not wait.
func (w *weave) goesOn(k thread) bool {
	return k.done < len(k.evs) || k.more && w.fresh(k) != 0
}

// waits tells if the thread k reads from a write that is yet to come.
func (w *weave) waits(k thread) bool {
	return k.more && !w.goesOn(k)
}

// fresh is the writes that the next read of k has not passed.
func (w *weave) fresh(k thread) set.Set {
	return set.Of(w.co[k.loc]...) &^ k.passed
}

// stale is the writes that the next read of thread t can't read from: in CO one
// of its own thread stands behind them. Of all that Uniproc asks for, this alone
// is not asked for by each model: of what a thread does to one location they keep
// all but a read behind a write.
func (w *weave) stale(t int, k thread) set.Set {
	row := w.co[k.loc]
	for at, n := range slices.Backward(row) {
		if numberOf(t, 0) <= n && n < numberOf(t+1, 0) {
			return set.Of(row[:at]...)
		}
	}
	return 0
}

// around is what co and fr lead from to a, and what they lead to from there.
func (w *weave) around(a step) (ahead, behind set.Set) {
	e := a.event()
	row := w.co[e.Loc]
	if event.Reads(e) {
		behind = set.Of(row[slices.Index(row, a.from)+1:]...)
	}
	if event.Writes(e) {
		behind |= set.Of(row[a.at:]...)
		ahead = set.Of(row[:a.at]...)
		for _, n := range row[:a.at] {
			ahead |= w.readers[n]
		}
	}
	return ahead, behind
}

// with is w and the event of a, but for the trail.
func (w *weave) with(a step) weave {
	next := *w
	e := a.event()
	if event.Reads(e) {
		next.readers[a.from] = next.readers[a.from].With(a.number())
	}
	if event.Writes(e) {
		next.co[e.Loc] = slices.Insert(slices.Clone(w.co[e.Loc]), a.at, a.number())
	}
	a.k.done++
	next.threads[a.t] = a.k
	return next
}

// to is events and all that lead to them.
func (r *trail) to(events set.Set) set.Set {
	all := events
	for n := range members(events) {
		all |= r[n]
	}
	return all
}

// add lets ahead, to which nothing else leads, lead to event n, which is new,
// and n to behind.
func (r *trail) add(n int, ahead, behind set.Set) {
	r[n] = ahead
	if behind == 0 {
		return
	}
	for b := range r {
		if behind.Has(b) || r[b]&behind != 0 {
			r[b] |= ahead.With(n)
		}
	}
}
