package tree_test

import (
	"errors"
	"maps"
	"slices"
	"strconv"
	"strings"
	"testing"

	"rowlock/api"
	"rowlock/bkey"
	"rowlock/mem"
	"rowlock/page"
	"rowlock/rows"
	"rowlock/tree"
)

// work is what a thread does: a call, or a batch if its kind is 0.
type work struct {
	call    api.Call
	span    bkey.Span
	reverse bool
}

// start makes it pending.
func (w work) start(t *testing.T, x *tree.Thread) {
	t.Helper()
	var err error
	if w.call.Kind > 0 {
		err = x.Start(w.call)
	} else {
		err = x.StartBatch(w.span, w.reverse)
	}
	if err != nil || !x.Pending() {
		t.Fatal(w, err)
	}
}

// event is work of a thread, and what came of it.
type event struct {
	work
	begin, end int // before and after which access; end is -1 as long as it is pending
	reply      api.Reply
	batch      tree.Batch
}

// finish notes what came of it.
func (e *event) finish(t *testing.T, x *tree.Thread, end int) {
	t.Helper()
	var err error
	if e.call.Kind > 0 {
		e.reply, err = x.Reply()
	} else {
		e.batch, err = x.Batch()
		e.reply.Err = e.batch.Err
	}
	if err != nil {
		t.Fatal(err)
	}
	e.end = end
}

// code is the code in an error, and 0 without one.
func code(err error) api.Code {
	var c api.Code
	errors.As(err, &c)
	return c
}

// sound tells whether an error is one that may be.
func (e *event) sound() bool {
	switch code(e.reply.Err) {
	case 0:
		return e.reply.Err == nil
	case api.ErrThere:
		return e.call.Kind == api.Insert
	case api.ErrNone:
		return e.reply.Err == error(api.ErrNone) && (e.call.Kind == api.Get || e.call.Kind == api.Update || e.call.Kind == api.Delete)
	case api.ErrFull, api.ErrExhausted:
		return true
	}
	return false
}

// changesNothing tells whether there was no space.
func (e *event) changesNothing() bool {
	c := code(e.reply.Err)
	return c == api.ErrFull || c == api.ErrExhausted
}

// apply is the rows after an event, and whether they are such that it has this result.
func (e *event) apply(l []api.Row) ([]api.Row, bool) {
	if e.call.Kind == 0 {
		return l, e.end < 0 || e.fits(l)
	}
	i, there := rows.Find(l, e.call.Key)
	want := api.Reply{}
	if there {
		want.Value = l[i].Value
	}
	after := l
	switch {
	case e.call.Kind == api.Insert && there:
		want = api.Reply{Err: api.ErrThere}
	case e.call.Kind != api.Insert && e.call.Kind != api.Upsert && !there:
		want = api.Reply{Err: api.ErrNone}
	case e.call.Kind == api.Delete:
		after, _ = rows.Drop(l, e.call.Key)
	case e.call.Kind != api.Get:
		after, _, _ = rows.Put(l, api.Row{Key: e.call.Key, Value: e.call.Value})
	}
	return after, e.end < 0 || e.reply == want
}

// fits tells whether a batch is what rows have in its piece of the span.
func (e *event) fits(l []api.Row) bool {
	piece := e.span
	switch {
	case e.batch.Ended:
	case e.reverse:
		piece.Low = e.batch.Rest.High
	default:
		piece = bkey.Span{Low: e.span.Low, High: e.batch.Rest.Low}
	}
	return slices.Equal(e.batch.Rows, rows.Take(l, piece, 0, e.reverse))
}

// history is events, and the rows ahead of them and behind them.
type history struct {
	first, last []api.Row
	events      []*event
	seen        map[string]bool
}

// text is rows in one text.
func text(l []api.Row) string {
	var made strings.Builder
	for _, r := range l {
		made.WriteString(r.Key + "=" + r.Value + " ")
	}
	return made.String()
}

// linear tells whether there is an order of the events that explains their results (theorem T1).
func (h *history) linear() bool {
	h.events = slices.DeleteFunc(slices.Clone(h.events), (*event).changesNothing)
	slices.SortFunc(h.events, func(a, b *event) int { return a.begin - b.begin })
	h.seen = map[string]bool{}
	return h.search(make([]bool, len(h.events)), h.first)
}

// search is linear after some of the events were taken.
func (h *history) search(taken []bool, l []api.Row) bool {
	key := strings.Builder{}
	left, pending := false, false
	end := 1 << 60 // of the first one that is left to finish
	for k, e := range h.events {
		if taken[k] {
			key.WriteByte('x')
			continue
		}
		key.WriteByte('.')
		if e.end < 0 {
			pending = true
		} else {
			left, end = true, min(end, e.end)
		}
	}
	if !left && (slices.Equal(l, h.last) || pending && !h.finished()) {
		return true
	}
	key.WriteString(text(l))
	if h.seen[key.String()] {
		return false
	}
	h.seen[key.String()] = true
	for k, e := range h.events {
		if taken[k] || e.begin > end {
			continue
		}
		if after, ok := e.apply(l); ok {
			taken[k] = true
			if h.search(taken, after) {
				return true
			}
			taken[k] = false
		}
	}
	return false
}

// finished tells whether no event is pending.
func (h *history) finished() bool {
	return !slices.ContainsFunc(h.events, func(e *event) bool { return e.end < 0 })
}

// tell is a history in a text, for those that are wrong.
func (h *history) tell() string {
	var made strings.Builder
	made.WriteString("from " + text(h.first) + "\n")
	for _, e := range h.events {
		made.WriteString(strconv.Itoa(e.begin) + " to " + strconv.Itoa(e.end) + ": " + tell(e.call))
		if e.call.Kind == 0 {
			made.WriteString("batch " + e.span.Low + " to " + e.span.High + ": " + text(e.batch.Rows))
		}
		if e.reply.Err != nil {
			made.WriteString(" " + e.reply.Err.Error())
		}
		made.WriteString(" -> " + e.reply.Value + "\n")
	}
	return made.String() + "to " + text(h.last)
}

// reached are the pages that are reachable from page 0, and the refs of their chains.
func reached(t *testing.T, m *mem.Memory) ([]int, []api.Ref) {
	t.Helper()
	pages := map[int]bool{}
	var refs []api.Ref
	for todo := []int{0}; len(todo) > 0; {
		n := todo[0]
		todo = todo[1:]
		if pages[n] {
			continue
		}
		pages[n] = true
		chain, l, err := m.Chain(n)
		p, e := page.Of(n, api.Ref{}, chain, l)
		if err != nil || e != nil {
			t.Fatal(n, err, e)
		}
		refs = append(refs, l...)
		for _, e := range p.Inner.Entries {
			todo = append(todo, e.Page)
		}
		if _, _, unbounded, right := p.Bounds(); !unbounded {
			todo = append(todo, right)
		}
	}
	slices.SortFunc(refs, func(a, b api.Ref) int { return a.Slot - b.Slot })
	return slices.Sorted(maps.Keys(pages)), refs
}

// clean asks that there is nothing in a memory but what is reachable (theorem T3).
func clean(t *testing.T, name string, m *mem.Memory) {
	t.Helper()
	pages, refs := reached(t, m)
	if !slices.Equal(pages, m.Pages()) || !slices.Equal(refs, m.Live()) {
		t.Fatalf("%s: %v and %v are reachable, of %v and %v", name, pages, refs, m.Pages(), m.Live())
	}
}

// intact asks that all that is in the bins is still there.
func intact(t *testing.T, name string, m *mem.Memory, threads []*tree.Thread) {
	t.Helper()
	c := m.Copy()
	for n, x := range threads {
		for _, i := range x.Bin() {
			for r := i.Chain; r != (api.Ref{}); {
				record, err := c.Load(r)
				if err != nil {
					t.Fatalf("%s: %v of thread %d: %v", name, i, n, err)
				}
				r = record.Next
			}
			if _, err := c.Head(i.Page); i.Page >= 0 && err != nil {
				t.Fatalf("%s: %v of thread %d: %v", name, i, n, err)
			}
		}
	}
}

// bound is within how many accesses a thread finishes, if it is alone (theorem T5).
func bound(slots, pages int) int { return 40*(slots+pages) + 400 }

// run is threads with their work, and what happened so far.
type run struct {
	t       *testing.T
	m       *mem.Memory
	threads []*tree.Thread
	todo    [][]work
	current []*event
	history history
	since   int // accesses since a call finished
	codes   map[api.Code]int
}

// newRun is a run of as many threads as there are lists of work.
func newRun(t *testing.T, m *mem.Memory, todo ...[]work) *run {
	t.Helper()
	first, err := tree.Scan(m)
	if err != nil {
		t.Fatal(err)
	}
	r := &run{t: t, m: m, todo: todo, current: make([]*event, len(todo)), history: history{first: first}, codes: map[api.Code]int{}}
	for n := range todo {
		r.threads = append(r.threads, tree.NewThread(n))
	}
	return r
}

// idle tells whether a thread has nothing to do.
func (r *run) idle(n int) bool { return !r.threads[n].Pending() && len(r.todo[n]) == 0 }

// finished tells whether all threads have nothing to do.
func (r *run) finished() bool {
	for n := range r.threads {
		if !r.idle(n) {
			return false
		}
	}
	return true
}

// turn lets a thread make one access, if it has something to do.
func (r *run) turn(n int) {
	r.t.Helper()
	x := r.threads[n]
	if r.idle(n) {
		return
	}
	if !x.Pending() {
		e := &event{work: r.todo[n][0], begin: r.m.Count(), end: -1}
		r.todo[n] = r.todo[n][1:]
		e.start(r.t, x)
		r.current[n] = e
		r.history.events = append(r.history.events, e)
	}
	was := r.m.Count()
	finished := x.Step(r.m)
	if r.m.Count() != was+1 {
		r.t.Fatal("accesses:", r.m.Count()-was)
	}
	r.since++
	if finished {
		r.done(n)
	}
	l := r.m.Limits()
	if r.since > bound(l.Slots, l.Pages)*(len(r.threads)+1) {
		r.t.Fatal("no call finishes")
	}
}

// done notes that the event of a thread has finished.
func (r *run) done(n int) {
	r.t.Helper()
	e := r.current[n]
	e.finish(r.t, r.threads[n], r.m.Count())
	r.codes[code(e.reply.Err)]++
	if !e.sound() {
		r.t.Fatalf("%s: %v\n%s", tell(e.call), e.reply.Err, r.history.tell())
	}
	r.since = 0
}

// alone asks that each thread would finish if it ran alone.
func (r *run) alone() {
	r.t.Helper()
	for n, x := range r.threads {
		y, c := *x, r.m.Copy()
		most := bound(len(c.Live()), len(c.Pages()))
		for k := 0; y.Pending(); k++ {
			if k == most {
				r.t.Fatalf("thread %d does not finish alone: %s", n, state(r.m))
			}
			y.Step(c)
		}
	}
}

// close asks for all that holds when all threads have nothing to do.
func (r *run) close(name string) {
	r.t.Helper()
	last, err := tree.Scan(r.m)
	if err != nil || !rows.Right(last) {
		r.t.Fatalf("%s: %v, %v", name, last, err)
	}
	r.history.last = last
	if !r.history.linear() {
		r.t.Fatalf("%s: there is no order:\n%s", name, r.history.tell())
	}
	for range 2 {
		for _, x := range r.threads {
			x.Sweep()
			for !x.Step(r.m) {
			}
		}
	}
	if now := now(r.m); now == r.m.Limits().Count {
		return // what was unlinked at the end of the clock is never ripe
	}
	for n, x := range r.threads {
		if len(x.Bin()) > 0 {
			r.t.Fatalf("%s: thread %d has %v", name, n, x.Bin())
		}
	}
	clean(r.t, name, r.m)
	if after, err := tree.Scan(r.m); err != nil || !slices.Equal(after, last) {
		r.t.Fatalf("%s: %v, %v, not %v", name, after, err, last)
	}
}

// dice is a row of numbers.
type dice int

// throw is the next number below n.
func (d *dice) throw(n int) int {
	*d = (*d*1103515245 + 12345) % (1 << 31)
	return int(*d) / 65536 % n
}

// work is one of those that there may be, with so many keys.
func (d *dice) work(keys, k int) work {
	key := func() string { return string([]byte{byte('a' + d.throw(keys))}) }
	if d.throw(8) == 0 {
		s := bkey.Span{Low: key(), Unbounded: d.throw(2) == 0}
		if !s.Unbounded {
			s.High = s.Low + "z"
			s.Low = key()
			if s.Low > s.High {
				s.Low, s.High = s.High, s.Low
			}
		}
		return work{span: s, reverse: d.throw(2) == 0}
	}
	kind := []int{api.Get, api.Insert, api.Update, api.Upsert, api.Delete, api.Delete}[d.throw(6)]
	if d.throw(40) < 20 && k%40 < 20 {
		kind = api.Insert // times in which the tree grows, and others
	}
	return work{call: api.Call{Kind: kind, Key: key(), Value: strconv.Itoa(k)}}
}

// lists are lists of work for some threads.
func (d *dice) lists(threads, each, keys int) [][]work {
	var all [][]work
	for n := range threads {
		var l []work
		for k := range each {
			l = append(l, d.work(keys, k*10+n))
		}
		all = append(all, l)
	}
	return all
}

// play lets threads take turns until they have nothing to do: short and long ones, and some threads rest for a while.
func (r *run) play(d *dice, check int) {
	r.t.Helper()
	for k := 0; !r.finished(); k++ {
		n := d.throw(len(r.threads))
		turns := 1
		if d.throw(10) == 0 {
			turns = d.throw(60)
		}
		for range turns {
			r.turn(n)
		}
		if check > 0 && k%check == 0 {
			r.alone()
			intact(r.t, "while threads take turns", r.m, r.threads)
		}
	}
}

func TestTheoremsWithManyThreads(t *testing.T) {
	codes := map[api.Code]int{}
	for seed := range 400 {
		d := dice(seed*7919 + 1)
		l := api.Limits{Slots: 300, Pages: 60, Threads: 2 + d.throw(4), Rows: 2 + d.throw(2), Chain: 2 + d.throw(3), Count: 1 << 30}
		m := memory(t, l)
		r := newRun(t, m, d.lists(l.Threads, 25, 3+d.throw(12))...)
		r.play(&d, 23)
		r.close("seed " + strconv.Itoa(seed))
		for c, n := range r.codes {
			codes[c] += n
		}
	}
	if codes[0] == 0 || codes[api.ErrThere] == 0 || codes[api.ErrNone] == 0 || codes[api.ErrFull] > 0 || codes[api.ErrExhausted] > 0 {
		t.Error("not what is to be expected:", codes)
	}
}

func TestTheoremsWithLittleSpace(t *testing.T) {
	codes := map[api.Code]int{}
	for seed := range 400 {
		d := dice(seed*7919 + 2)
		l := api.Limits{Slots: 4 + d.throw(30), Pages: 3 + d.throw(8), Threads: 2 + d.throw(2), Rows: 2, Chain: 2 + d.throw(2), Count: 1 << 30}
		m := memory(t, l)
		r := newRun(t, m, d.lists(l.Threads, 25, 3+d.throw(6))...)
		r.play(&d, 23)
		r.close("seed " + strconv.Itoa(seed))
		for c, n := range r.codes {
			codes[c] += n
		}
	}
	if codes[0] == 0 || codes[api.ErrThere] == 0 || codes[api.ErrNone] == 0 || codes[api.ErrFull] == 0 || codes[api.ErrExhausted] > 0 {
		t.Error("not what is to be expected:", codes)
	}
}

// Theorem T6, and example 10 of the whole.
func TestTheoremsWithLowCounters(t *testing.T) {
	codes := map[api.Code]int{}
	for seed := range 300 {
		d := dice(seed*7919 + 3)
		l := api.Limits{Slots: 10 + d.throw(60), Pages: 30, Threads: 3, Rows: 2, Chain: 2 + d.throw(2), Count: 8 + d.throw(40)}
		m := memory(t, l)
		r := newRun(t, m, d.lists(l.Threads, 20, 3+d.throw(6))...)
		clock := 0
		for !r.finished() {
			n := d.throw(3)
			r.turn(n)
			if at := now(m); at < clock || at > l.Count {
				t.Fatalf("the clock is at %d after %d, of %d", at, clock, l.Count)
			}
			clock = now(m)
			for _, x := range m.Live() {
				if x.Gen > l.Count {
					t.Fatal(x)
				}
			}
		}
		r.close("seed " + strconv.Itoa(seed))
		for c, n := range r.codes {
			codes[c] += n
		}
		was, err := tree.Scan(m)
		if clock < l.Count || err != nil {
			continue
		}
		x := tree.NewThread(0)
		for _, c := range []api.Call{get("a"), upsert("a", "new"), remove("a")} {
			does(t, x, m, c, "", in(0, "clock", 0, api.ErrExhausted))
		}
		if is, err := tree.Scan(m); err != nil || !slices.Equal(was, is) {
			t.Fatalf("%v, %v, not %v", is, err, was)
		}
	}
	if codes[0] == 0 || codes[api.ErrExhausted] == 0 {
		t.Error("not what is to be expected:", codes)
	}
}

// A thread that stops for ever may have done its call, or not; the others go on (theorem T1).
func TestTheoremsWithThreadsThatStop(t *testing.T) {
	for seed := range 300 {
		d := dice(seed*7919 + 4)
		l := api.Limits{Slots: 400, Pages: 60, Threads: 4, Rows: 2, Chain: 2, Count: 1 << 30}
		m := memory(t, l)
		lists := d.lists(4, 12, 3+d.throw(6))
		r := newRun(t, m, lists...)
		for range d.throw(200) {
			r.turn(d.throw(4))
		}
		r.todo[2], r.todo[3] = nil, nil
		for !r.idle(0) || !r.idle(1) {
			r.turn(d.throw(2))
		}
		last, err := tree.Scan(m)
		if err != nil {
			t.Fatal(err)
		}
		r.history.last = last
		if !r.history.linear() {
			t.Fatalf("seed %d: there is no order:\n%s", seed, r.history.tell())
		}
		intact(t, "threads that stop", m, r.threads)
	}
}

// copied is a run that goes on by itself.
func (r *run) copied() *run {
	c := *r
	c.m = r.m.Copy()
	c.threads, c.todo, c.current = nil, slices.Clone(r.todo), make([]*event, len(r.current))
	for _, x := range r.threads {
		y := *x
		c.threads = append(c.threads, &y)
	}
	c.history.events = nil
	for _, e := range r.history.events {
		own := *e
		c.history.events = append(c.history.events, &own)
		if n := slices.Index(r.current, e); n >= 0 {
			c.current[n] = &own
		}
	}
	return &c
}

// interleave lets a run finish in every order in which its threads stop for one another at most so many times while they have something to do, and returns how many orders there are.
func (r *run) interleave(name string, stops int) int {
	if r.finished() {
		r.close(name)
		return 1
	}
	orders := 0
	for n := range r.threads {
		if !r.idle(n) {
			orders += r.copied().stay(name, n, stops)
		}
	}
	return orders
}

// stay is interleave with one of the threads running.
func (r *run) stay(name string, running, stops int) int {
	orders := 0
	for r.turn(running); !r.idle(running); r.turn(running) {
		for n := range r.threads {
			if stops > 0 && n != running && !r.idle(n) {
				orders += r.copied().stay(name, n, stops-1)
			}
		}
	}
	return orders + r.interleave(name, stops)
}

func TestTheoremsInAllOrders(t *testing.T) {
	call := func(l ...api.Call) []work {
		var made []work
		for _, c := range l {
			made = append(made, work{call: c})
		}
		return made
	}
	grown := func(t *testing.T) *mem.Memory { // a page 0 that is to grow
		m := memory(t, limits())
		replace(t, m, 0, base("", "", 0, "abcde"))
		return m
	}
	for k, c := range []struct {
		make  func(*testing.T) *mem.Memory
		todo  [][]work
		stops int
	}{
		{laid, [][]work{call(insert("cc", "1")), call(insert("cc", "2"))}, 4},
		{laid, [][]work{call(remove("c"), get("d")), call(remove("d"), get("c"))}, 2},
		{laid, [][]work{call(update("c", "1")), call(remove("c")), call(get("c"))}, 2},
		{hollow, [][]work{call(insert("c", "1")), call(insert("d", "2"))}, 2},
		{hollow, [][]work{call(insert("c", "1")), call(get("c"), get("c"))}, 2},
		{hollow, [][]work{call(insert("c", "1")), {{span: span("b", "")}}, {{span: span("", "e"), reverse: true}}}, 1},
		{heldLeaf, [][]work{call(upsert("d", "1")), call(remove("d"))}, 2},
		{heldLeaf, [][]work{call(upsert("d", "1")), call(upsert("b", "2")), call(get("d"))}, 1},
		{crowded, [][]work{call(upsert("d", "1")), call(remove("d"))}, 2},
		{crowded, [][]work{call(upsert("c1", "1")), call(upsert("d", "2"), get("c1"))}, 2},
		{longChain, [][]work{call(update("c", "1")), call(update("c", "2"))}, 2},
		{longChain, [][]work{call(update("c", "1")), call(get("c"), get("c"))}, 2},
		{behindSplit, [][]work{call(upsert("d", "1")), call(upsert("d", "2"))}, 2},
		{grown, [][]work{call(upsert("a", "1")), call(upsert("e", "2"))}, 2},
		{grown, [][]work{call(upsert("a", "1")), {{span: span("", "")}, {span: span("", ""), reverse: true}}}, 2},
	} {
		r := newRun(t, c.make(t), c.todo...)
		if orders := r.interleave("case "+strconv.Itoa(k), c.stops); orders < 100 {
			t.Errorf("case %d: %d orders", k, orders)
		}
		if r.codes[api.ErrFull] > 0 {
			t.Errorf("case %d: %v", k, r.codes)
		}
	}
}
