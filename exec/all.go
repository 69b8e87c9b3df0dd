package exec

import (
	"slices"

	"jacquard/api"
	"jacquard/event"
	"jacquard/fit"
	"jacquard/order"
	"jacquard/prog"
	"jacquard/rel"
)

// limit is the most executions that All tells.
const limit = 100_000

// sources has for each event of each thread whose W it reads: 0 is what its
// location begins with, else sourceAt. What does not read, or is not done, has
// 0 too. What all threads do, and all RF, hangs on it alone; so it is the key
// by which executions that are unlike in more than CO are told apart.
type sources [api.MaxThreads][api.MaxIns]int8

// sourceAt is event i of thread t as a source.
func sourceAt(t, i int) int8 {
	return int8(1 + t*api.MaxIns + i)
}

// placeOf is the thread and the event of a source that is not 0.
func placeOf(s int8) (t, i int) {
	return int(s-1) / api.MaxIns, int(s-1) % api.MaxIns
}

// weave is all that an execution has but its CO.
type weave struct {
	from sources
	rows [api.MaxThreads][]api.Ev
}

// search gathers all weaves of a program.
type search struct {
	p     api.Prog
	inits []api.Ev
	most  int
	// count is how many executions the weaves come to.
	count  int
	seen   map[sources]struct{}
	weaves []weave
}

// All is all candidate executions of p, in the order of Less; false and none if
// there are more than most.
func All(p api.Prog, most int) ([]api.Exec, bool) {
	if !fit.Prog(p) {
		return nil, false
	}
	s := &search{p: p, inits: event.Inits(p), most: min(max(most, 0), limit), seen: map[sources]struct{}{}}
	if !s.run() {
		return nil, false
	}
	return s.execs(), true
}

// run begins with the weave that reads nothing but the Inits, and turns one
// such read at a time to another write. No way leads into a void: what is turned
// to is there already, and what is done behind it reads the Inits again. And all
// weaves are come to: turn the reads of one in an order that keeps PO and RF. It
// is false as soon as the executions are more than most.
func (s *search) run() bool {
	if !s.add(s.first()) {
		return false
	}
	for at := 0; at < len(s.weaves); at++ {
		for t := range s.p.Threads {
			if !s.turn(s.weaves[at], t) {
				return false
			}
		}
	}
	return true
}

func (s *search) first() weave {
	var w weave
	for t := range s.p.Threads {
		w.rows[t] = s.finish(t, nil)
	}
	return w
}

// finish is the events of thread t when it reads reads, and then the Inits. It
// appends to reads.
func (s *search) finish(t int, reads []int64) []api.Ev {
	for {
		row, end, more := event.Unfold(s.p, t, reads)
		if !more {
			return row
		}
		i, _ := prog.Next(s.p, t, end)
		reads = append(reads, s.inits[i.Loc].W)
	}
}

// add keeps w; false if the executions are then more than most.
func (s *search) add(w weave) bool {
	s.seen[w.from] = struct{}{}
	s.weaves = append(s.weaves, w)
	s.count += w.orders(s.most)
	return s.count <= s.most
}

// orders is how many CO there are for w, but no more than most and one.
func (w weave) orders(most int) int {
	var writes [api.MaxLocs]int
	orders := 1
	for _, row := range w.rows {
		for _, e := range row {
			if !event.Writes(e) {
				continue
			}
			// One more write stands ahead of all others, or behind one of them.
			writes[e.Loc]++
			orders *= writes[e.Loc]
			if orders > most {
				return most + 1
			}
		}
	}
	return orders
}

// turn adds all weaves in which one more read of thread t is turned; false if
// the executions are then more than most.
func (s *search) turn(w weave, t int) bool {
	for i := w.settled(t); i < len(w.rows[t]); i++ {
		if event.Reads(w.rows[t][i]) && !s.turnRead(w, t, i) {
			return false
		}
	}
	return true
}

// turnRead adds w with event i of thread t turned to each write that it can read
// from.
func (s *search) turnRead(w weave, t, i int) bool {
	for u, row := range w.rows {
		if u == t {
			// What the thread does from the read on hangs on it.
			row = row[:i]
		}
		for j, e := range row {
			if event.Writes(e) && e.Loc == w.rows[t][i].Loc && !s.reach(w, t, i, u, j) {
				return false
			}
		}
	}
	return true
}

// settled is how many events of thread t can't be turned any more: those up to
// the last that was turned, or that is read by one that was. A read behind them
// changes nothing of another thread.
func (w weave) settled(t int) int {
	n := 0
	for u, froms := range w.from {
		for i, from := range froms {
			if from == 0 {
				continue
			}
			if u == t {
				n = max(n, i+1)
			}
			if v, j := placeOf(from); v == t {
				n = max(n, j+1)
			}
		}
	}
	return n
}

// reach adds w with event i of thread t turned to event j of thread u, unless
// that was come to on another way.
func (s *search) reach(w weave, t, i, u, j int) bool {
	w.from[t][i] = sourceAt(u, j)
	if _, ok := s.seen[w.from]; ok {
		return true
	}
	reads := append(readBy(w.rows[t][:i]), w.rows[u][j].W)
	w.rows[t] = s.finish(t, reads)
	return s.add(w)
}

// execs is all weaves with all their CO, in the order of Less.
func (s *search) execs() []api.Exec {
	plain := make([]api.Exec, len(s.weaves))
	for at, w := range s.weaves {
		plain[at] = s.plain(w)
	}
	slices.SortFunc(plain, compare)
	all := make([]api.Exec, 0, s.count)
	for _, x := range plain {
		for _, co := range everyCO(x.Evs, len(s.inits)) {
			all = append(all, api.Exec{Evs: slices.Clone(x.Evs), RF: slices.Clone(x.RF), CO: co})
		}
	}
	return all
}

// plain is w as an execution that has no CO yet.
func (s *search) plain(w weave) api.Exec {
	evs := slices.Clone(s.inits)
	var starts [api.MaxThreads]int
	for t, row := range w.rows {
		starts[t] = len(evs)
		evs = append(evs, row...)
	}
	rf := make([]int, len(evs))
	for at, e := range evs {
		rf[at] = nowhere
		if event.Reads(e) {
			rf[at] = e.Loc
			if from := w.from[e.T][e.I]; from != 0 {
				t, i := placeOf(from)
				rf[at] = starts[t] + i
			}
		}
	}
	return api.Exec{Evs: evs, RF: rf}
}

// everyCO is all orders of the writes of all locations, rising.
func everyCO(evs []api.Ev, locs int) [][][]int {
	all := [][][]int{nil}
	for loc := range locs {
		rows := everyRow(writesTo(evs, loc))
		var longer [][][]int
		for _, co := range all {
			for _, row := range rows {
				longer = append(longer, append(copied(co), slices.Clone(row)))
			}
		}
		all = longer
	}
	return all
}

// everyRow is all orders of places in which the first stays first, rising.
func everyRow(places []int) [][]int {
	ahead := rel.New(len(places))
	for at := 1; at < len(places); at++ {
		ahead = ahead.Add(0, at)
	}
	rows := order.All(ahead, limit)
	for _, row := range rows {
		for at, n := range row {
			row[at] = places[n]
		}
	}
	return rows
}

func copied(co [][]int) [][]int {
	rows := make([][]int, len(co))
	for loc, row := range co {
		rows[loc] = slices.Clone(row)
	}
	return rows
}
