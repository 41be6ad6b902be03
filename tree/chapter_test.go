package tree_test

import (
	"reflect"
	"slices"
	"strconv"
	"testing"

	"rowlock/api"
	"rowlock/bkey"
	"rowlock/epoch"
	"rowlock/inner"
	"rowlock/install"
	"rowlock/leaf"
	"rowlock/mem"
	"rowlock/merge"
	"rowlock/page"
	"rowlock/plan"
	"rowlock/rows"
	"rowlock/tree"
)

// What the chapter says, access by access.

// others are what other threads do ahead of an access.
type others map[int]func(*mem.Memory)

// script does the accesses of a thread in a row, and keeps what the memory is after each of them.
type script struct {
	m     *mem.Memory
	other others
	trace []*mem.Memory
	n     int // the thread's number
	bin   []epoch.Item
	reply api.Reply
	batch tree.Batch
}

// longest is after how many accesses a script stops, as others may leave behind what has no end.
const longest = 120

// stopped is how a script stops.
type stopped struct{}

// access makes an access, after the other threads did what they do ahead of it.
func (s *script) access(f func()) {
	if len(s.trace) == longest {
		panic(stopped{})
	}
	if f := s.other[len(s.trace)]; f != nil {
		f(s.m)
	}
	f()
	s.trace = append(s.trace, s.m.Copy())
}

// load loads a page.
func (s *script) load(n int) (page.Page, error) {
	l := page.Begin(n)
	for !l.Over() {
		s.access(func() { l.Step(s.m) })
	}
	return l.Page()
}

// does does a job.
func (s *script) does(j install.Job) (bool, error) {
	i := install.Begin(j)
	for !i.Over() {
		s.access(func() { i.Step(s.m) })
	}
	return i.Done()
}

// puts puts a record on a page.
func (s *script) puts(n int, old api.Ref, r api.Record) (bool, error) {
	r.Next = old
	return s.does(install.Job{Page: n, Old: old, Make: func([]int) ([]api.Record, api.Record) { return nil, r }})
}

// throws puts something into the bin.
func (s *script) throws(head api.Ref, n int) {
	s.access(func() { s.bin = append(s.bin, epoch.Item{Stamp: s.m.Now(), Chain: head, Page: n}) })
}

// chapter is what chapter 14 says, and whether it comes to an end.
func (s *script) chapter(w work) (over bool) {
	defer func() {
		if x := recover(); x != nil && x != any(stopped{}) {
			panic(x)
		}
	}()
	if w == (work{}) {
		s.sweeps()
		return true
	}
	if err := s.phases(w); err != nil {
		err = &api.Fault{Place: "tree", Slot: s.n, Err: err}
		s.reply, s.batch = api.Reply{Err: err}, tree.Batch{Err: err}
	}
	return true
}

// phases are all phases. An error of the walk does not end them.
func (s *script) phases(w work) error {
	var at int
	var err error
	if s.access(func() { at, err = s.m.Bump() }); err != nil {
		return err
	}
	if s.access(func() { err = s.m.Enter(s.n, at) }); err != nil {
		return err
	}
	err = s.walks(w)
	s.access(func() { s.m.Leave(s.n) })
	if len(s.bin) > 0 {
		s.sweeps()
	}
	return err
}

// walks are phases 2 to 4.
func (s *script) walks(w work) error {
	writes := w.call.Kind > api.Get
	n, above := 0, plan.Above{}
	for {
		p, err := s.load(n)
		if err != nil {
			return err
		}
		x := w.plan(p, above, s.m.Limits(), writes)
		acted := false
		switch x.Kind {
		case plan.Down:
			n, above = x.To, plan.Above{Some: true, N: p.N, Head: p.Head, View: p.Inner}
			continue
		case plan.Across:
			n = x.To
			continue
		case plan.Again:
			if p.Leaf {
				writes = true
			}
		case plan.Act:
			acted, err = s.acts(w, p)
		default:
			err = s.changes(p, above, x)
		}
		if acted || err != nil {
			return err
		}
		n, above = 0, plan.Above{}
	}
}

// plan is what is to be done at a page.
func (w work) plan(p page.Page, above plan.Above, l api.Limits, writes bool) plan.Plan {
	switch {
	case w.call.Kind > 0:
		return plan.Decide(p, above, w.call.Key, l, writes)
	case w.reverse:
		return plan.Back(p, w.span.High, w.span.Unbounded, writes)
	}
	return plan.Decide(p, above, w.span.Low, l, writes)
}

// changes does what is in the way.
func (s *script) changes(p page.Page, above plan.Above, x plan.Plan) error {
	var done bool
	var err error
	head, n := p.Head, -1
	switch x.Kind {
	case plan.Post:
		_, err = s.puts(above.N, above.Head, api.Record{Kind: api.InnerPut, Key: x.Entry.Key, Page: x.Entry.Page})
	case plan.Hold:
		_, err = s.puts(above.N, above.Head, api.Record{Kind: api.InnerHold, Hold: x.Hold})
	case plan.Help:
		h := merge.Begin(p.N, p.Head, x.Hold)
		for !h.Over() {
			s.access(func() { h.Step(s.m) })
		}
		done, err = h.Done()
		head, n = h.Gone()
	case plan.Tidy:
		r := inner.Base(p.Inner)
		if p.Leaf {
			r = leaf.Base(p.Rows)
		}
		done, err = s.does(install.Job{Page: p.N, Old: p.Head, Make: func([]int) ([]api.Record, api.Record) { return nil, r }})
	case plan.Split:
		_, err = s.does(install.Job{Page: p.N, Old: p.Head, News: 1, Make: func(pages []int) ([]api.Record, api.Record) {
			left, right, _ := inner.Split(p.Inner, pages[0])
			if p.Leaf {
				left, right, _ = leaf.Split(p.Rows, pages[0])
			}
			left.Next = p.Head
			return []api.Record{right}, left
		}})
	case plan.Grow:
		done, err = s.does(install.Job{Page: p.N, Old: p.Head, News: 2, Make: func(pages []int) ([]api.Record, api.Record) {
			left, right, top, _ := inner.Grow(p.Inner, pages[0], pages[1])
			if p.Leaf {
				left, right, top, _ = leaf.Grow(p.Rows, pages[0], pages[1])
			}
			return []api.Record{left, right}, top
		}})
	}
	if done {
		s.throws(head, n)
	}
	return err
}

// acts is phase 3: whether the walk is over.
func (s *script) acts(w work, p page.Page) (bool, error) {
	if w.call.Kind == 0 {
		s.takes(w, p.Rows)
		return true, nil
	}
	var was string
	i := slices.IndexFunc(p.Rows.Rows, func(r api.Row) bool { return r.Key == w.call.Key })
	if i >= 0 {
		was = p.Rows.Rows[i].Value
	}
	put := api.Record{Kind: api.LeafPut, Key: w.call.Key, Value: w.call.Value}
	switch {
	case w.call.Kind == api.Insert && i >= 0:
		s.reply = api.Reply{Err: api.ErrThere}
		return true, nil
	case w.call.Kind != api.Insert && w.call.Kind != api.Upsert && i < 0:
		s.reply = api.Reply{Err: api.ErrNone}
		return true, nil
	case w.call.Kind == api.Get:
		s.reply = api.Reply{Value: was}
		return true, nil
	case w.call.Kind == api.Delete:
		put = api.Record{Kind: api.LeafDel, Key: w.call.Key}
	}
	done, err := s.puts(p.N, p.Head, put)
	if done {
		s.reply = api.Reply{Value: was}
	}
	return done, err
}

// takes is what a batch returns.
func (s *script) takes(w work, v leaf.View) {
	s.batch = tree.Batch{Rows: rows.Take(v.Rows, w.span, 0, w.reverse)}
	if w.reverse {
		s.batch.Ended = v.Low == "" || bkey.Compare(v.Low, w.span.Low) <= 0
		s.batch.Rest = bkey.Span{Low: w.span.Low, High: v.Low}
	} else {
		s.batch.Ended = v.Unbounded || bkey.Compare(v.High, w.span.High) >= 0 && !w.span.Unbounded
		s.batch.Rest = bkey.Span{Low: v.High, High: w.span.High, Unbounded: w.span.Unbounded}
	}
	if s.batch.Ended {
		s.batch.Rest = bkey.Span{}
	}
}

// sweeps is phase 5 from its Bump on.
func (s *script) sweeps() {
	var oldest int
	s.access(func() { oldest, _ = s.m.Bump() })
	for n := range s.m.Limits().Threads {
		s.access(func() {
			if at, inside, _ := s.m.At(n); inside && at < oldest {
				oldest = at
			}
		})
	}
	items := s.bin
	s.bin = nil
	for _, i := range items {
		if i.Stamp >= oldest {
			s.bin = append(s.bin, i)
		}
	}
	for _, i := range items {
		if i.Stamp >= oldest {
			continue
		}
		for x := i.Chain; x != (api.Ref{}); {
			var r api.Record
			var err error
			if s.access(func() { r, err = s.m.Load(x) }); err != nil {
				break
			}
			s.access(func() { s.m.Free(x) })
			x = r.Next
		}
		if i.Page != -1 {
			s.access(func() { s.m.Give(i.Page) })
		}
	}
}

// agrees asks that a thread does step by step what the chapter says, and tells whether it came to an end.
func agrees(t *testing.T, name string, m *mem.Memory, x *tree.Thread, n int, w work, other others) bool {
	t.Helper()
	s := &script{m: m.Copy(), other: other, n: n, bin: x.Bin()}
	over := s.chapter(w)
	if w == (work{}) {
		x.Sweep()
	} else {
		w.start(t, x)
	}
	for k, after := range s.trace {
		busy(t, name, x)
		if f := other[k]; f != nil {
			f(m)
		}
		if finished := x.Step(m); finished != (over && k == len(s.trace)-1) {
			t.Fatalf("%s: Step %d is %v", name, k, finished)
		}
		if !reflect.DeepEqual(m, after) {
			t.Fatalf("%s: %q after step %d, not %q", name, state(m), k, state(after))
		}
	}
	if !over {
		busy(t, name, x)
		return false
	}
	binned(t, name, x, s.bin...)
	switch {
	case w == (work{}):
	case w.call.Kind > 0:
		replies(t, name, x, s.reply)
	default:
		returns(t, name, x, s.batch)
	}
	return true
}

// another makes so many accesses of another thread, which is begun for that, and stops then, wherever it is.
func another(n int, c api.Call, accesses int) func(*mem.Memory) {
	return func(m *mem.Memory) {
		x := tree.NewThread(n)
		if x.Start(c) != nil {
			return
		}
		for range accesses {
			x.Step(m)
		}
	}
}

// front puts a record in front of a page, if there is a slot.
func front(n int, r api.Record) func(*mem.Memory) {
	return func(m *mem.Memory) {
		old, _ := m.Head(n)
		r.Next = old
		x, _ := m.Alloc(r)
		m.Swap(n, old, x)
	}
}

// disturbances are what may happen between two accesses, whether it ought to or not.
func disturbances() []func(*mem.Memory) {
	l := []func(*mem.Memory){func(*mem.Memory) {}}
	for _, c := range []api.Call{upsert("cc", "1"), remove("c"), remove("d"), upsert("b1", "1"), upsert("x", "1")} {
		l = append(l, another(1, c, 100), another(2, c, 7), another(2, c, 13))
	}
	l = append(l,
		func(m *mem.Memory) { another(1, remove("c"), 100)(m); another(1, remove("d"), 100)(m) },
		func(m *mem.Memory) {
			for k := range 9 {
				another(1, upsert("c"+strconv.Itoa(k), "1"), 100)(m)
			}
		},
		func(m *mem.Memory) { m.Leave(0) },
		func(m *mem.Memory) { m.Enter(0, 1) },
		func(m *mem.Memory) { m.Enter(1, 1) },
		func(m *mem.Memory) { m.Bump() },
		func(m *mem.Memory) {
			for _, err := m.Bump(); err == nil; _, err = m.Bump() {
			}
		},
		func(m *mem.Memory) {
			for _, err := m.Alloc(api.Record{}); err == nil; _, err = m.Alloc(api.Record{}) {
			}
		},
		func(m *mem.Memory) {
			for _, err := m.Take(); err == nil; _, err = m.Take() {
			}
		},
		front(0, api.Record{Kind: api.InnerHold, Hold: middle()}), front(2, api.Record{Kind: api.LeafRemove}), front(2, api.Record{Kind: api.LeafPut, Key: "c", Value: "1"}),
		front(0, api.Record{Kind: 99}), front(2, api.Record{Kind: 99}),
		func(m *mem.Memory) { m.Give(2) }, func(m *mem.Memory) { m.Give(4) },
	)
	for n := range 3 {
		l = append(l, func(m *mem.Memory) {
			if live := m.Live(); len(live) > n {
				m.Free(live[len(live)-1-n])
			}
		})
	}
	return l
}

// settings are memories, and what a thread does in them.
func settings(t *testing.T) []func() (*mem.Memory, work) {
	var all []func() (*mem.Memory, work)
	with := func(make func(*testing.T) *mem.Memory, works ...work) {
		for _, w := range works {
			all = append(all, func() (*mem.Memory, work) { return make(t), w })
		}
	}
	call := func(c api.Call) work { return work{call: c} }
	gone := func(t *testing.T) *mem.Memory {
		m := heldLeaf(t)
		front(2, api.Record{Kind: api.LeafRemove})(m)
		return m
	}
	root := func(t *testing.T) *mem.Memory {
		m := memory(t, limits())
		replace(t, m, 0, base("", "", 0, "abcde"))
		return m
	}
	d, back := work{span: span("d", "")}, work{span: span("", "d"), reverse: true}
	with(laid, call(get("c")), call(insert("cc", "2")), call(remove("c")), d, back)
	with(crowded, call(upsert("d", "2")), call(update("c1", "2")))
	with(heldLeaf, call(upsert("d", "2")), call(get("d")))
	with(gone, call(get("d")), call(remove("d")), d, back)
	with(longChain, call(update("c", "2")))
	with(hollow, call(insert("c", "2")), call(remove("c")))
	with(behindSplit, call(upsert("d", "2")), d, back)
	with(root, call(upsert("c", "2")))
	return all
}

func TestTheChapterByItself(t *testing.T) {
	for k, setting := range settings(t) {
		m, w := setting()
		if !agrees(t, "setting "+strconv.Itoa(k), m, tree.NewThread(0), 0, w, nil) {
			t.Error("no end of", k)
		}
	}
}

func TestWhateverOthersDo(t *testing.T) {
	l := disturbances()
	endless := 0
	codes := map[api.Code]int{}
	for n, setting := range settings(t) {
		for k := range 24 {
			for a, f := range l {
				if (n+k+a)%3 > 0 { // not all, as there are too many
					continue
				}
				b := (5*n + 3*k + 7*a) % len(l)
				name := strconv.Itoa(n) + ", " + strconv.Itoa(a) + " ahead of " + strconv.Itoa(k) + ", and then " + strconv.Itoa(b)
				m, w := setting()
				x := tree.NewThread(0)
				if !agrees(t, name, m, x, 0, w, others{k: f, k + 5: l[b]}) {
					endless++
					continue
				}
				if r, err := x.Reply(); err == nil {
					codes[code(r.Err)]++
				}
				agrees(t, name+", and a sweep", m, x, 0, work{}, others{3: f, 5: l[b]})
			}
		}
	}
	if endless == 0 {
		t.Error("all came to an end")
	}
	for _, c := range []api.Code{0, api.ErrFull, api.ErrStale, api.ErrExhausted, api.ErrNone, api.ErrThere, api.ErrKind, api.ErrState} {
		if codes[c] == 0 {
			t.Error("not all errors were there:", codes)
		}
	}
}

// A thread goes on after whatever happened, with what is in its bin.
func TestSeveralCallsWhateverOthersDo(t *testing.T) {
	l := disturbances()[:17] // those that are done by threads
	for seed := range 60 {
		d := dice(seed*7919 + 5)
		m := laidIn(t, api.Limits{Slots: 90, Pages: 30, Threads: 3, Rows: 2 + d.throw(2), Chain: 2 + d.throw(2), Count: 5000})
		x := tree.NewThread(0)
		for k := range 12 {
			w := d.work(6, k)
			other := others{d.throw(20): l[d.throw(len(l))], d.throw(20): l[d.throw(len(l))]}
			if d.throw(3) == 0 {
				other = nil
			}
			if !agrees(t, "seed "+strconv.Itoa(seed)+", call "+strconv.Itoa(k), m, x, 0, w, other) {
				break
			}
			if d.throw(4) == 0 && !agrees(t, "a sweep", m, x, 0, work{}, nil) {
				break
			}
		}
	}
}
