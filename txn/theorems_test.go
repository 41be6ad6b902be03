package txn_test

import (
	"maps"
	"slices"
	"strconv"
	"strings"
	"testing"

	"rowlock/api"
	"rowlock/bkey"
	"rowlock/commits"
	"rowlock/tree"
	"rowlock/txn"
)

// seen is an act of a transaction, and its result.
type seen struct {
	act    act
	result txn.Result
}

// trip is a transaction, with when it began and ended.
type trip struct {
	reads      bool
	begin, end int
	began      bool // whether the Begin has finished
	snapshot   int
	number     int // of its commit, or 0
	last       int // the last commit when it had ended
	ended      bool
	code       api.Code
	seen       []seen
}

// wrote is the last write of each key.
func (x *trip) wrote() map[string]commits.Write {
	l := map[string]commits.Write{}
	for _, y := range x.seen {
		if y.act.writes() {
			l[y.act.key] = y.act.write()
		}
	}
	return l
}

// read is the keys and spans that count as read.
func (x *trip) read() (keys []string, spans []bkey.Span) {
	wrote := map[string]int{}
	for _, y := range x.seen {
		_, own := wrote[y.act.key]
		switch {
		case y.act.writes():
			wrote[y.act.key] = 1
		case y.act.kind == doRange:
			spans = append(spans, y.act.span)
		case !own:
			keys = append(keys, y.act.key)
		}
	}
	return keys, spans
}

// fits tells whether a transaction read what a state has, with its own writes. Reads with errors do not count.
func (x *trip) fits(from state) bool {
	own := maps.Clone(from)
	for _, y := range x.seen {
		v, ok := own[y.act.key]
		switch r := y.result; {
		case y.act.writes():
			own.put(y.act.write())
		case r.Err != nil:
		case y.act.kind == doGet && (v != r.Value || ok != r.There):
			return false
		case y.act.kind == doRange && !slices.Equal(r.Rows, own.ranged(y.act)):
			return false
		}
	}
	return true
}

// world is a store, clients with their work, and their transactions so far.
type world struct {
	t       *testing.T
	s       txn.Store
	clients []*txn.Client
	todo    [][]act
	doing   []act
	open    []*trip
	trips   []*trip
	clock   int
	codes   map[api.Code]int
}

// newWorld is a world of so many clients without work.
func newWorld(t *testing.T, s txn.Store, clients int) *world {
	w := &world{t: t, s: s, todo: make([][]act, clients), doing: make([]act, clients), open: make([]*trip, clients), codes: map[api.Code]int{}}
	for n := range clients {
		w.clients = append(w.clients, txn.NewClient(n))
	}
	return w
}

// idle tells whether a client has nothing to do.
func (w *world) idle(n int) bool { return !w.clients[n].Pending() && len(w.todo[n]) == 0 }

// turn is a client's: it begins what it has to do, until something is pending, and makes one access.
func (w *world) turn(n int) {
	w.t.Helper()
	c := w.clients[n]
	for !c.Pending() {
		if len(w.todo[n]) == 0 {
			return
		}
		a := w.todo[n][0]
		w.todo[n] = w.todo[n][1:]
		w.start(n, a)
	}
	w.clock++
	was := w.s.Mem.Count()
	finished := c.Step(w.s)
	if finished == c.Pending() || w.s.Mem.Count() > was+1 {
		w.t.Fatal("a step is", finished)
	}
	if finished {
		w.done(n)
	}
}

// start lets a client begin an act. If its Begin had an error, there is no transaction to do it in.
func (w *world) start(n int, a act) {
	w.t.Helper()
	c, begins := w.clients[n], a.kind == doBegin || a.kind == doLook
	w.doing[n] = a
	err := a.start(c)
	if err == error(api.ErrState) && w.open[n] == nil && !begins && a.kind != doFlush {
		return
	}
	if err != nil {
		w.t.Fatal(a, err)
	}
	if begins {
		w.open[n] = &trip{begin: w.clock, reads: a.kind == doLook}
		w.trips = append(w.trips, w.open[n])
	}
	if !c.Pending() {
		w.done(n)
	}
}

// done notes the result of a client's act.
func (w *world) done(n int) {
	w.t.Helper()
	r, err := w.clients[n].Result()
	if err != nil || code(r.Err) == api.ErrStale {
		w.t.Fatal(w.doing[n], r, err)
	}
	a, x := w.doing[n], w.open[n]
	if !a.writes() {
		w.codes[code(r.Err)]++
	}
	switch a.kind {
	case doBegin, doLook:
		x.began, x.snapshot = true, r.Number
	case doGet, doRange, doPut, doDrop:
		x.seen = append(x.seen, seen{act: a, result: r})
	case doCommit, doAbort:
		x.ended, x.end, x.code, x.last = true, w.clock, code(r.Err), w.s.Table.Last()
		switch {
		case len(x.wrote()) > 0:
			x.number = r.Number
		case a.kind == doCommit && (r.Number != x.snapshot || r.Err != nil):
			w.t.Fatal("a commit of nothing:", r)
		}
		w.open[n] = nil
	}
}

// written is what each commit wrote, by its number less 1: that of transactions that have ended, or are about to.
func (w *world) written() [][]commits.Write {
	w.t.Helper()
	all := make([][]commits.Write, w.s.Table.Last())
	for _, x := range w.trips {
		if x.number == 0 {
			continue
		}
		if x.number > len(all) || all[x.number-1] != nil {
			w.t.Fatal("two commits with the same number, or one beyond the last one")
		}
		all[x.number-1] = slices.Collect(maps.Values(x.wrote()))
	}
	for i, l := range all {
		if l == nil {
			all[i] = w.appended(i + 1)
		}
	}
	return all
}

// appended is a commit of a transaction that has not ended.
func (w *world) appended(number int) []commits.Write {
	w.t.Helper()
	l, err := w.s.Table.At(number)
	for n, x := range w.open {
		if x == nil || w.doing[n].kind != doCommit || !w.clients[n].Pending() {
			continue
		}
		wrote := x.wrote()
		if err == nil && len(wrote) == len(l) && !slices.ContainsFunc(l, func(y commits.Write) bool { return wrote[y.Key] != y }) {
			return l
		}
	}
	w.t.Fatal("a commit that is nobody's:", number, l, err)
	return nil
}

// states are what commits leave, from none of them on.
func states(written [][]commits.Write) []state {
	all := []state{{}}
	for i, l := range written {
		next := maps.Clone(all[i])
		for _, y := range l {
			next.put(y)
		}
		all = append(all, next)
	}
	return all
}

// contains asks that the tree with the commits that are not in it has what all commits leave.
func (w *world) contains(name string, last state) {
	w.t.Helper()
	l, err := tree.Scan(w.s.Mem)
	if err != nil {
		w.t.Fatal(name, err)
	}
	all := state{}
	for _, r := range l {
		all[r.Key] = r.Value
	}
	for n := w.s.Table.Base() + 1; n <= w.s.Table.Last(); n++ {
		part, err := w.s.Table.At(n)
		if err != nil {
			w.t.Fatal(name, err)
		}
		for _, y := range part {
			all.put(y)
		}
	}
	if !maps.Equal(all, last) {
		w.t.Fatalf("%s: %v, not %v", name, all, last)
	}
}

// check asks for all that holds of transactions at any moment (theorem T2).
func (w *world) check(name string) {
	w.t.Helper()
	written := w.written()
	states := states(written)
	w.contains(name, states[len(written)])
	for _, x := range w.trips {
		if what := w.wrong(x, written, states); what != "" && x.began {
			w.t.Fatalf("%s: %s: %+v\n%s", name, what, *x, w.tell())
		}
	}
}

// wrong is what is wrong with a transaction.
func (w *world) wrong(x *trip, written [][]commits.Write, states []state) string {
	switch {
	case x.snapshot > len(written), !x.fits(states[x.snapshot]):
		return "not what was committed at the snapshot"
	case slices.ContainsFunc(w.trips, func(y *trip) bool { return y.number > x.snapshot && y.end <= x.begin }):
		return "a commit is not seen that was there before"
	case x.number > 0 && (x.number <= x.snapshot || !x.fits(states[x.number-1])):
		return "not what the commits before left"
	case x.number > 0 && x.clashes(written[x.snapshot:x.number-1]):
		return "a conflict that was not found"
	case x.code == api.ErrConflict && !x.clashes(written[x.snapshot:x.last]):
		return "a conflict that is none"
	}
	return ""
}

// clashes tells whether one of some commits clashes with what was read.
func (x *trip) clashes(written [][]commits.Write) bool {
	keys, spans := x.read()
	return slices.ContainsFunc(written, func(l []commits.Write) bool { return clashes(keys, spans, l) })
}

// tell is all transactions.
func (w *world) tell() string {
	var s strings.Builder
	for _, x := range w.trips {
		for _, n := range []int{x.begin, x.end, x.snapshot, x.number} {
			s.WriteString(strconv.Itoa(n) + " ")
		}
		s.WriteString(x.code.Error() + "\n")
	}
	return s.String()
}

// rest lets the clients finish, and end their transactions.
func (w *world) rest(name string) {
	w.t.Helper()
	for n, c := range w.clients {
		for !w.idle(n) {
			w.turn(n)
		}
		if c.Inside() {
			w.todo[n] = []act{{kind: doCommit + n%2}}
		}
		for !w.idle(n) {
			w.turn(n)
		}
	}
	w.check(name + ", at the end")
}

// flushed asks that everything can be flushed, and is in the tree then.
func (w *world) flushed(name string) {
	w.t.Helper()
	for base := w.s.Table.Base(); base < w.s.Table.Last(); base++ {
		c := w.clients[base%len(w.clients)]
		if r := does(w.t, w.s, c, c.Flush()); r.Err != nil || r.Number != base+1 {
			w.t.Fatal(name, r, base, w.s.Table.Last())
		}
	}
	written := w.written()
	l, err := tree.Scan(w.s.Mem)
	if want := states(written)[len(written)].rows(); err != nil || !slices.Equal(l, want) || w.s.Table.Count() != 0 {
		w.t.Fatalf("%s: %q, %v, not %q", name, told(l), err, told(want))
	}
}

// solo lets a client do a transaction alone, and sometimes flush.
func (w *world) solo(d *dice, n int) {
	w.t.Helper()
	first := act{kind: doBegin + d.throw(5)/4}
	l := []act{first}
	for k := range d.throw(8) {
		if a := d.inside(6, k); a.kind < doCommit && !(first.kind == doLook && a.writes()) {
			l = append(l, a)
		}
	}
	l = append(l, act{kind: doCommit + d.throw(5)/4})
	for range d.throw(3) {
		l = append(l, act{kind: doFlush})
	}
	for w.todo[n] = l; !w.idle(n); {
		w.turn(n)
	}
}

// next is what a client that has nothing to do may do.
func (w *world) next(d *dice, n, keys, k int) act {
	if !w.clients[n].Inside() {
		w.open[n] = nil // if there is one, its Begin had an error
		return d.outside()
	}
	a := d.inside(keys, k)
	if a.writes() && w.open[n].reads {
		return act{kind: doGet, key: a.key}
	}
	return a
}

// play lets clients take turns, short and long ones, until so many acts have begun.
func (w *world) play(d *dice, acts, keys int) {
	w.t.Helper()
	for k := 0; k < acts; {
		n, turns := d.throw(len(w.clients)), 1
		if d.throw(4) == 0 {
			turns = d.throw(60)
		}
		for range turns {
			if w.idle(n) {
				w.todo[n] = []act{w.next(d, n, keys, k)}
				k++
			}
			w.turn(n)
		}
		if d.throw(20) == 0 {
			w.check("while clients take turns")
		}
	}
}

// sum adds how often there were codes.
func sum(to, from map[api.Code]int) {
	for c, n := range from {
		to[c] += n
	}
}

// only asks that there were just these codes, each of them often enough.
func only(t *testing.T, codes map[api.Code]int, often int, want ...api.Code) {
	t.Helper()
	got := slices.Sorted(maps.Keys(codes))
	if !slices.Equal(got, want) || slices.ContainsFunc(want, func(c api.Code) bool { return codes[c] < often }) {
		t.Error("not what is to be expected:", codes)
	}
}

// Theorem T2.

func TestTransactionsAmongOthers(t *testing.T) {
	t.Parallel()
	codes := map[api.Code]int{}
	for seed := range 300 {
		d := dice(seed*7919 + 4)
		l := limits()
		l.Threads, l.Rows, l.Chain = 2+d.throw(4), 2+d.throw(2), 2+d.throw(3)
		w := newWorld(t, store(t, l), l.Threads)
		name := "seed " + strconv.Itoa(seed)
		w.play(&d, 120, 3+d.throw(12))
		w.rest(name)
		w.flushed(name)
		sum(codes, w.codes)
	}
	only(t, codes, 100, 0, api.ErrConflict)
}

func TestTransactionsWithLittleSpace(t *testing.T) {
	t.Parallel()
	codes := map[api.Code]int{}
	for seed := range 200 {
		d := dice(seed*7919 + 5)
		l := limits()
		l.Slots, l.Pages, l.Chain = 4+d.throw(12), 3+d.throw(5), 2+d.throw(2)
		w := newWorld(t, store(t, l), l.Threads)
		w.play(&d, 120, 3+d.throw(12))
		w.rest("seed " + strconv.Itoa(seed))
		sum(codes, w.codes)
	}
	only(t, codes, 50, 0, api.ErrFull, api.ErrConflict)
}

// Theorem T6, too: when counters are at their end, the rows stay.
func TestTransactionsWithLowCounters(t *testing.T) {
	t.Parallel()
	codes := map[api.Code]int{}
	for seed := range 200 {
		d := dice(seed*7919 + 6)
		l := limits()
		l.Count = 8 + d.throw(60)
		w := newWorld(t, store(t, l), l.Threads)
		for k := range 12 {
			w.play(&d, 10, 3+d.throw(12))
			if w.s.Table.Last() > l.Count {
				t.Fatalf("seed %d: %d commits", seed, k)
			}
		}
		w.rest("seed " + strconv.Itoa(seed))
		sum(codes, w.codes)
	}
	only(t, codes, 100, 0, api.ErrExhausted, api.ErrConflict)
}

// Clients that stop for ever have committed, or have not; the others go on, but nothing is flushed beyond their snapshots.
func TestTransactionsOfClientsThatStop(t *testing.T) {
	t.Parallel()
	for seed := range 200 {
		d := dice(seed*7919 + 7)
		l := limits()
		l.Threads = 4
		w := newWorld(t, store(t, l), 4)
		w.play(&d, 20+d.throw(60), 3+d.throw(6))
		for k := range 60 {
			n := d.throw(2)
			for w.idle(n) {
				w.todo[n] = []act{w.next(&d, n, 8, 200+k)}
			}
			for !w.idle(n) {
				w.turn(n)
			}
		}
		w.check("seed " + strconv.Itoa(seed))
		for n := 2; n < 4; n++ {
			if x := w.open[n]; x != nil && x.began && w.s.Table.Base() > x.snapshot {
				t.Fatalf("seed %d: the base is %d, beyond the snapshot %d", seed, w.s.Table.Base(), x.snapshot)
			}
		}
	}
}

// copied is a world that goes on by itself.
func (w *world) copied() *world {
	c := *w
	c.s, c.todo, c.doing, c.codes = copied(w.s), slices.Clone(w.todo), slices.Clone(w.doing), map[api.Code]int{}
	c.clients, c.open, c.trips = nil, make([]*trip, len(w.open)), nil
	for _, x := range w.clients {
		own := *x
		c.clients = append(c.clients, &own)
	}
	for _, x := range w.trips {
		own := *x
		own.seen = slices.Clone(x.seen)
		c.trips = append(c.trips, &own)
		if n := slices.Index(w.open, x); n >= 0 {
			c.open[n] = &own
		}
	}
	return &c
}

// interleave lets a world finish in every order in which its clients stop for one another at most so many times while they have something to do, and returns how often it finishes in each way.
func (w *world) interleave(name string, stops int) map[string]int {
	ways := map[string]int{}
	if !slices.ContainsFunc(w.clients, func(c *txn.Client) bool { return !w.idle(slices.Index(w.clients, c)) }) {
		w.check(name)
		ways[w.way()]++
		w.rest(name)
		w.flushed(name)
		return ways
	}
	for n := range w.clients {
		if !w.idle(n) {
			add(ways, w.copied().stay(name, n, stops))
		}
	}
	return ways
}

// add adds how often there were ways.
func add(to, from map[string]int) {
	for c, n := range from {
		to[c] += n
	}
}

// stay is interleave with one of the clients running.
func (w *world) stay(name string, running, stops int) map[string]int {
	ways := map[string]int{}
	for w.turn(running); !w.idle(running); w.turn(running) {
		for n := range w.clients {
			if stops > 0 && n != running && !w.idle(n) {
				add(ways, w.copied().stay(name, n, stops-1))
			}
		}
	}
	add(ways, w.interleave(name, stops))
	return ways
}

// way is how the transactions ended, each by who began when: its number, and its code if there is one.
func (w *world) way() string {
	var all []string
	for _, x := range w.trips {
		s := strconv.Itoa(x.number)
		if x.code != 0 {
			s = x.code.Error()
		}
		all = append(all, s)
	}
	slices.Sort(all)
	return strings.Join(all, " ")
}

func TestTransactionsInAllOrders(t *testing.T) {
	t.Parallel()
	does := func(l ...act) []act { return l }
	first, looks, ends, lets := act{kind: doBegin}, act{kind: doLook}, act{kind: doCommit}, act{kind: doFlush}
	read := func(key string) act { return act{kind: doGet, key: key} }
	write := func(key, value string) act { return act{kind: doPut, key: key, value: value} }
	gone := func(key string) act { return act{kind: doDrop, key: key} }
	all := act{kind: doRange, span: span("", "")}
	for k, c := range []struct {
		todo  [][]act
		stops int
		ways  []string
	}{
		{[][]act{does(first, read("a"), write("a", "2"), ends), does(first, read("a"), write("a", "3"), ends)}, 4, []string{"1 2 conflict", "1 2 3"}},
		{[][]act{does(first, read("a"), write("b", "2"), ends), does(first, read("b"), write("a", "3"), ends)}, 4, []string{"1 2 conflict", "1 2 3"}},
		{[][]act{does(first, write("a", "2"), ends), does(first, write("a", "3"), ends)}, 4, []string{"1 2 3"}},
		{[][]act{does(first, all, write("c", "2"), ends), does(first, all, gone("a"), ends)}, 2, []string{"1 2 conflict", "1 2 3"}},
		{[][]act{does(looks, all, read("a"), ends), does(first, write("a", "2"), gone("b"), ends, lets, lets)}, 2, []string{"0 1 2"}},
		{[][]act{does(looks, read("a"), read("b"), ends), does(lets, lets), does(first, write("a", "2"), gone("b"), ends)}, 2, []string{"0 1 2"}},
		{[][]act{does(first, read("a"), write("x", "1"), ends, lets), does(first, write("a", "2"), ends, lets)}, 2, []string{"1 2 conflict", "1 2 3"}},
		{[][]act{does(lets), does(lets), does(lets)}, 2, []string{"1"}},
	} {
		w := newWorld(t, store(t, tiny()), len(c.todo))
		w.todo[0] = does(first, write("a", "1"), write("b", "1"), ends)
		for !w.idle(0) {
			w.turn(0)
		}
		w.todo = c.todo
		ways := w.interleave("case "+strconv.Itoa(k), c.stops)
		total := 0
		for _, n := range ways {
			total += n
		}
		slices.Sort(c.ways)
		if got := slices.Sorted(maps.Keys(ways)); !slices.Equal(got, c.ways) || total < 100 {
			t.Errorf("case %d: %v", k, ways)
		}
	}
}

// The examples of the whole.

// Example 7.
func TestExampleOfAConflict(t *testing.T) {
	s := store(t, limits())
	x, y := begun(t, s, 0, false), begun(t, s, 1, false)
	does(t, s, x, x.Get("a"))
	records(t, y, "a=1")
	is(t, "the other one", does(t, s, y, y.Commit()), txn.Result{Number: 1})
	records(t, x, "b=1")
	is(t, "the one that read", does(t, s, x, x.Commit()), txn.Result{Err: api.ErrConflict})
}

// Example 8.
func TestExampleOfOneThatOnlyReads(t *testing.T) {
	s := filled(t, 0, "a=1 b=1", "a=2")
	x, y := begun(t, s, 0, true), txn.NewClient(1)
	for k := range 5 {
		commit(t, s, "a="+strconv.Itoa(k)+" c=1", "-b")
		for range 4 {
			does(t, s, y, y.Flush())
		}
		is(t, "Get", does(t, s, x, x.Get("a")), there("2"))
		is(t, "Range", does(t, s, x, x.Range(span("", ""), 0, false)), txn.Result{Rows: list("a=2 b=1")})
		if s.Table.Base() != 2 {
			t.Error("the flushes do not wait:", s.Table.Base())
		}
	}
	is(t, "Commit", does(t, s, x, x.Commit()), txn.Result{Number: 2})
	flush(t, s, 10)
}

// Example 9.
func TestExampleOfARange(t *testing.T) {
	for _, writes := range []bool{false, true} {
		s := filled(t, 1, "a=1 d=1")
		x, y := begun(t, s, 0, false), begun(t, s, 1, false)
		does(t, s, x, x.Range(span("a", "c"), 0, false))
		records(t, y, "b=1")
		does(t, s, y, y.Commit())
		want := txn.Result{Number: 1}
		if writes {
			records(t, x, "z=1")
			want = txn.Result{Err: api.ErrConflict}
		}
		is(t, "Commit", does(t, s, x, x.Commit()), want)
	}
}

// Example 10.
func TestExampleOfTheClockAtItsEnd(t *testing.T) {
	s := low(t, 60)
	commit(t, s, "a=1 b=2", "c=3")
	flush(t, s, 1)
	exhaust(s)
	x := begun(t, s, 0, false)
	for range 3 {
		is(t, "Get", does(t, s, x, x.Get("a")), txn.Result{Err: in(0, "clock", 0, api.ErrExhausted)})
		is(t, "Range", does(t, s, x, x.Range(span("", ""), 0, false)), txn.Result{Err: in(0, "clock", 0, api.ErrExhausted)})
	}
	does(t, s, x, x.Abort())
	if l, err := tree.Scan(s.Mem); told(l) != "a=1 b=2" || err != nil {
		t.Error(told(l), err)
	}
}
