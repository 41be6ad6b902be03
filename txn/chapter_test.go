package txn_test

import (
	"maps"
	"reflect"
	"slices"
	"strconv"
	"testing"

	"rowlock/api"
	"rowlock/bkey"
	"rowlock/commits"
	"rowlock/cursor"
	"rowlock/tree"
	"rowlock/txn"
)

// Kinds of acts.
const (
	doBegin = iota
	doLook
	doGet
	doPut
	doDrop
	doRange
	doCommit
	doAbort
	doFlush
)

// act is what a client does.
type act struct {
	kind       int
	key, value string
	span       bkey.Span
	limit      int
	reverse    bool
}

// start does it, or begins to.
func (a act) start(c *txn.Client) error {
	switch a.kind {
	case doBegin, doLook:
		return c.Begin(a.kind == doLook)
	case doGet:
		return c.Get(a.key)
	case doPut:
		return c.Put(api.Row{Key: a.key, Value: a.value})
	case doDrop:
		return c.Drop(a.key)
	case doRange:
		return c.Range(a.span, a.limit, a.reverse)
	case doCommit:
		return c.Commit()
	case doAbort:
		return c.Abort()
	}
	return c.Flush()
}

// writes tells whether it is a put or a drop.
func (a act) writes() bool { return a.kind == doPut || a.kind == doDrop }

// write is what a put or a drop writes.
func (a act) write() commits.Write {
	return commits.Write{Key: a.key, Value: a.value, Gone: a.kind == doDrop}
}

// dice is a row of numbers.
type dice int

// throw is the next number below n.
func (d *dice) throw(n int) int {
	*d = (*d*1103515245 + 12345) % (1 << 31)
	return int(*d) / 65536 % n
}

// key is one of so many keys of one byte.
func (d *dice) key(keys int) string { return string([]byte{byte('a' + d.throw(keys))}) }

// span is one with ends that are, or nearly are, among so many keys.
func (d *dice) span(keys int) bkey.Span {
	low, high := d.key(keys), d.key(keys)+"\x00"
	if low > high {
		low, high = high, low
	}
	switch d.throw(6) {
	case 0:
		low = ""
	case 1:
		high = ""
	case 2:
		low, high = "", ""
	}
	return span(low, high)
}

// inside is what may be done in a transaction, with so many keys.
func (d *dice) inside(keys, k int) act {
	switch d.throw(16) {
	case 0, 1, 2, 3:
		return act{kind: doGet, key: d.key(keys)}
	case 4, 5, 6, 7:
		return act{kind: doPut, key: d.key(keys), value: strconv.Itoa(k)}
	case 8, 9:
		return act{kind: doDrop, key: d.key(keys)}
	case 10, 11, 12:
		return act{kind: doRange, span: d.span(keys), limit: d.throw(3) * d.throw(4), reverse: d.throw(2) == 0}
	case 13, 14:
		return act{kind: doCommit}
	}
	return act{kind: doAbort}
}

// outside is what may be done without a transaction.
func (d *dice) outside() act {
	return act{kind: []int{doBegin, doBegin, doLook, doFlush, doFlush, doFlush, doFlush}[d.throw(7)]}
}

// What the chapter says, access by access.

// others are what others do ahead of an access.
type others map[int]func(txn.Store)

// script does the accesses of a client in a row, and keeps what the store is after each of them.
type script struct {
	s        txn.Store
	other    others
	trace    []txn.Store
	n        int // the client's number
	thread   *tree.Thread
	inside   bool
	reads    bool
	snapshot int
	wrote    []commits.Write // as they were recorded
	keys     []string
	spans    []bkey.Span
}

// access makes an access, after others did what they do ahead of it.
func (x *script) access(f func()) {
	if g := x.other[len(x.trace)]; g != nil {
		g(x.s)
	}
	f()
	x.trace = append(x.trace, copied(x.s))
}

// does does an act, and returns its result.
func (x *script) does(a act) txn.Result {
	switch a.kind {
	case doBegin, doLook:
		return x.begins(a.kind == doLook)
	case doGet:
		return x.gets(a.key)
	case doPut, doDrop:
		x.wrote = append(x.wrote, a.write())
		return txn.Result{}
	case doRange:
		return x.ranges(a)
	case doFlush:
		return x.flushes()
	}
	r := txn.Result{Number: x.snapshot}
	switch {
	case a.kind == doAbort:
		r = txn.Result{}
	case len(x.wrote) > 0:
		r = x.appends()
	}
	x.access(func() { x.s.Table.Mark(x.n, -1) })
	*x = script{s: x.s, other: x.other, trace: x.trace, n: x.n, thread: x.thread}
	return r
}

func (x *script) begins(reads bool) txn.Result {
	var base, last int
	var err error
	x.access(func() { base = x.s.Table.Base() })
	if x.access(func() { err = x.s.Table.Mark(x.n, base) }); err != nil {
		return txn.Result{Err: err}
	}
	x.access(func() { last = x.s.Table.Last() })
	if x.access(func() { err = x.s.Table.Mark(x.n, last) }); err != nil {
		return txn.Result{Err: err}
	}
	x.inside, x.reads, x.snapshot = true, reads, last
	return txn.Result{Number: last}
}

// log reads the log.
func (x *script) log() [][]commits.Write {
again:
	var base int
	x.access(func() { base = x.s.Table.Base() })
	var parts [][]commits.Write
	for n := base + 1; n <= x.snapshot; n++ {
		var l []commits.Write
		var err error
		if x.access(func() { l, err = x.s.Table.At(n) }); err != nil {
			goto again
		}
		parts = append(parts, l)
	}
	return parts
}

// call does a call of the thread.
func (x *script) call(c api.Call) api.Reply {
	x.thread.Start(c)
	for x.thread.Pending() {
		x.access(func() { x.thread.Step(x.s.Mem) })
	}
	r, _ := x.thread.Reply()
	return r
}

// last is the last write of a key.
func last(l []commits.Write, key string) (commits.Write, bool) {
	for _, w := range slices.Backward(l) {
		if w.Key == key {
			return w, true
		}
	}
	return commits.Write{}, false
}

func (x *script) gets(key string) txn.Result {
	if w, ok := last(x.wrote, key); ok {
		return txn.Result{Value: w.Value, There: !w.Gone}
	}
	x.keys = append(x.keys, key)
	if w, ok := last(slices.Concat(x.log()...), key); ok {
		return txn.Result{Value: w.Value, There: !w.Gone}
	}
	r := x.call(api.Call{Kind: api.Get, Key: key})
	switch code(r.Err) {
	case 0:
		return txn.Result{Value: r.Value, There: true}
	case api.ErrNone:
		return txn.Result{}
	}
	return txn.Result{Err: r.Err}
}

// state is what keys have.
type state map[string]string

// put applies a write to a state.
func (x state) put(w commits.Write) {
	if w.Gone {
		delete(x, w.Key)
	} else {
		x[w.Key] = w.Value
	}
}

// rows is a state's rows, by increasing keys.
func (x state) rows() []api.Row {
	var l []api.Row
	for _, k := range slices.Sorted(maps.Keys(x)) {
		l = append(l, api.Row{Key: k, Value: x[k]})
	}
	return l
}

// lies tells whether a key lies in a span.
func lies(s bkey.Span, key string) bool { return key >= s.Low && (s.Unbounded || key < s.High) }

// ranged is the rows of a range.
func (x state) ranged(a act) []api.Row {
	l := slices.DeleteFunc(x.rows(), func(r api.Row) bool { return !lies(a.span, r.Key) })
	if a.reverse {
		slices.Reverse(l)
	}
	if a.limit >= 1 && a.limit < len(l) {
		l = l[:a.limit]
	}
	return l
}

func (x *script) ranges(a act) txn.Result {
	x.spans = append(x.spans, a.span)
	parts := x.log()
	c, err := cursor.New(x.thread, a.span, 0, a.reverse)
	for err == nil && !c.Over() {
		x.access(func() { c.Step(x.s.Mem) })
	}
	found, err := c.Rows()
	if err != nil {
		return txn.Result{Err: err}
	}
	all := state{}
	for _, r := range found {
		all[r.Key] = r.Value
	}
	for _, w := range slices.Concat(append(parts, x.wrote)...) {
		all.put(w)
	}
	return txn.Result{Rows: all.ranged(a)}
}

// clashes tells whether writes clash with what was read.
func clashes(keys []string, spans []bkey.Span, l []commits.Write) bool {
	return slices.ContainsFunc(l, func(w commits.Write) bool {
		return slices.Contains(keys, w.Key) || slices.ContainsFunc(spans, func(s bkey.Span) bool { return lies(s, w.Key) })
	})
}

// appends is a commit up to the mark.
func (x *script) appends() txn.Result {
	all := map[string]commits.Write{}
	for _, w := range x.wrote {
		all[w.Key] = w
	}
	var l []commits.Write
	for _, k := range slices.Sorted(maps.Keys(all)) {
		l = append(l, all[k])
	}
	for n := x.snapshot + 1; ; {
		var end int
		for x.access(func() { end = x.s.Table.Last() }); n <= end; n++ {
			var other []commits.Write
			var err error
			x.access(func() { other, err = x.s.Table.At(n) })
			switch {
			case err != nil:
				return txn.Result{Err: err}
			case clashes(x.keys, x.spans, other):
				return txn.Result{Err: api.ErrConflict}
			}
		}
		var ok bool
		var err error
		if x.access(func() { ok, err = x.s.Table.Append(end, l) }); ok || err != nil {
			if err != nil {
				end = -1
			}
			return txn.Result{Number: end + 1, Err: err}
		}
	}
}

func (x *script) flushes() txn.Result {
	var ok bool
	var err error
	if x.access(func() { ok, err = x.s.Table.Grab(x.n) }); !ok {
		return txn.Result{Err: err}
	}
	r := x.holds()
	x.access(func() { x.s.Table.Yield(x.n) })
	return r
}

// holds is a flush from where it holds the token.
func (x *script) holds() txn.Result {
	var base, end int
	x.access(func() { base = x.s.Table.Base() })
	if x.access(func() { end = x.s.Table.Last() }); base == end {
		return txn.Result{}
	}
	for n := range x.s.Mem.Limits().Threads {
		var mark int
		if x.access(func() { mark, _ = x.s.Table.Marked(n) }); mark >= 0 && mark <= base {
			return txn.Result{}
		}
	}
	var l []commits.Write
	var err error
	if x.access(func() { l, err = x.s.Table.At(base + 1) }); err != nil {
		return txn.Result{Err: err}
	}
	for _, w := range l {
		c := api.Call{Kind: api.Upsert, Key: w.Key, Value: w.Value}
		if w.Gone {
			c.Kind = api.Delete
		}
		if r := x.call(c); r.Err != nil && code(r.Err) != api.ErrNone {
			return txn.Result{Err: r.Err}
		}
	}
	var ok bool
	if x.access(func() { ok, err = x.s.Table.Advance(base) }); !ok {
		return txn.Result{Err: err}
	}
	x.access(func() { x.s.Table.Trim(base + 1) })
	return txn.Result{Number: base + 1}
}

// outcome is an act's result as the chapter has it, and after how many accesses.
type outcome struct {
	act    act
	result txn.Result
	after  int
	inside bool
}

// follows asks that a client does what the chapter says, and returns the codes of the results.
func follows(t *testing.T, name string, s txn.Store, d *dice, acts, keys int, other others) []api.Code {
	t.Helper()
	x := script{s: copied(s), other: other, n: 1, thread: tree.NewThread(1)}
	var want []outcome
	for k := range acts {
		a := d.outside()
		if x.inside {
			a = d.inside(keys, k)
		}
		if x.reads && a.writes() {
			continue
		}
		r := x.does(a)
		want = append(want, outcome{act: a, result: r, after: len(x.trace), inside: x.inside})
	}
	c := txn.NewClient(1)
	made := 0
	var codes []api.Code
	for _, w := range want {
		err := w.act.start(c)
		if err != nil || c.Pending() != (w.after > made) {
			t.Fatalf("%s: %+v: %v, Pending is %v", name, w.act, err, c.Pending())
		}
		for ; made < w.after; made++ {
			if f := other[made]; f != nil {
				f(s)
			}
			if finished := c.Step(s); finished != (made+1 == w.after) {
				t.Fatalf("%s: %+v: step %d of %d is %v", name, w.act, made+1, w.after, finished)
			}
			if !reflect.DeepEqual(s, x.trace[made]) {
				t.Fatalf("%s: %+v: access %d of %d is another one", name, w.act, made+1, w.after)
			}
		}
		idle(t, s, c)
		r, err := c.Result()
		if err != nil || c.Inside() != w.inside {
			t.Fatalf("%s: %+v: %v, Inside is %v", name, w.act, err, c.Inside())
		}
		if !w.act.writes() {
			is(t, name, r, w.result)
		}
		codes = append(codes, code(r.Err))
	}
	return codes
}

// tiny are limits with which much happens in a few accesses.
func tiny() api.Limits {
	return api.Limits{Slots: 60, Pages: 12, Threads: 3, Rows: 2, Chain: 2, Count: 1000}
}

// aside is something that others do, from the begin to the end.
func (d *dice) aside(t *testing.T, keys, k int) func(txn.Store) {
	t.Helper()
	n := 2 * d.throw(2)
	switch d.throw(9) {
	case 0, 1, 2, 3:
		l := []commits.Write{{Key: d.key(keys), Value: strconv.Itoa(k), Gone: false}}
		if d.throw(3) == 0 {
			l = []commits.Write{{Key: d.key(keys), Gone: true}}
		}
		return func(s txn.Store) { s.Table.Append(s.Table.Last(), l) }
	case 4:
		mark := d.throw(9) - 1
		return func(s txn.Store) { s.Table.Mark(n, mark) }
	}
	times := 1 + d.throw(3)
	return func(s txn.Store) {
		c := txn.NewClient(n)
		for range times {
			for c.Flush(); c.Pending(); {
				c.Step(s)
			}
		}
	}
}

func TestTheChapterAccessByAccess(t *testing.T) {
	t.Parallel()
	codes := map[api.Code]int{}
	for seed := range 250 {
		d := dice(seed*7919 + 2)
		l := tiny()
		if seed%4 == 0 {
			l.Slots, l.Pages = 4+d.throw(4), 3
		}
		if seed%4 == 1 {
			l.Count = 8 + d.throw(40)
		}
		s := store(t, l)
		keys := 2 + d.throw(5)
		for k := range d.throw(8) {
			d.aside(t, keys, k)(s)
		}
		other := others{}
		for k := range d.throw(30) {
			other[d.throw(150)] = d.aside(t, keys, 100+k)
		}
		for _, c := range follows(t, "seed "+strconv.Itoa(seed), s, &d, 30, keys, other) {
			codes[c]++
		}
	}
	for _, c := range []api.Code{0, api.ErrConflict, api.ErrFull, api.ErrExhausted} {
		if codes[c] < 10 {
			t.Error("not what is to be expected:", codes)
		}
	}
}

// What should not happen: marks are taken away, and the base moves without the token.
func TestTheChapterAmongOthersWhoDoNotKeepToIt(t *testing.T) {
	t.Parallel()
	codes := map[api.Code]int{}
	for seed := range 250 {
		d := dice(seed*7919 + 3)
		s := store(t, tiny())
		keys := 2 + d.throw(5)
		other := others{}
		for k := range d.throw(40) {
			f := d.aside(t, keys, 100+k)
			switch d.throw(6) {
			case 0:
				f = func(s txn.Store) { s.Table.Mark(1, -1) }
			case 1:
				f = func(s txn.Store) { s.Table.Advance(s.Table.Base()) }
			case 2:
				f = func(s txn.Store) { s.Table.Trim(s.Table.Base()) }
			case 3:
				f = func(s txn.Store) { s.Table.Yield(1) }
			}
			other[d.throw(150)] = f
		}
		for _, c := range follows(t, "seed "+strconv.Itoa(seed), s, &d, 30, keys, other) {
			codes[c]++
		}
	}
	for _, c := range []api.Code{0, api.ErrConflict, api.ErrNone, api.ErrState} {
		if codes[c] == 0 {
			t.Error("not what is to be expected:", codes)
		}
	}
}
