package cursor_test

import (
	"errors"
	"reflect"
	"slices"
	"strconv"
	"strings"
	"testing"

	"rowlock/api"
	"rowlock/bkey"
	"rowlock/cursor"
	"rowlock/mem"
	"rowlock/rows"
	"rowlock/tree"
)

// dice is a row of numbers.
type dice int

// throw is the next number below n.
func (d *dice) throw(n int) int {
	*d = (*d*1103515245 + 12345) % (1 << 31)
	return int(*d) / 65536 % n
}

// key is one of so many keys of one byte.
func (d *dice) key(keys int) string { return string([]byte{byte('a' + d.throw(keys))}) }

// span is one with ends that are, or nearly are, among so many keys.
func (d *dice) span(keys int) bkey.Span {
	low, high := d.key(keys), d.key(keys)+"\x00"
	if low > high {
		low, high = high, low
	}
	switch d.throw(6) {
	case 0:
		low = ""
	case 1:
		high = ""
	case 2:
		low, high = "", ""
	}
	return span(low, high)
}

// call is a call that writes.
func (d *dice) call(keys, k int) api.Call {
	kind := []int{api.Insert, api.Update, api.Upsert, api.Upsert, api.Delete, api.Delete}[d.throw(6)]
	if k%40 < 15 {
		kind = api.Upsert // times in which the tree grows, and others
	}
	return api.Call{Kind: kind, Key: d.key(keys), Value: strconv.Itoa(k)}
}

// grown is a memory after an upsert of each byte of a text, which is its value, too.
func grown(t *testing.T, l api.Limits, keys string) *mem.Memory {
	t.Helper()
	m := memory(t, l)
	x := tree.NewThread(0)
	for k := range len(keys) {
		if r := does(t, x, m, api.Call{Kind: api.Upsert, Key: keys[k : k+1], Value: keys[k : k+1]}); r.Err != nil {
			t.Fatal(r)
		}
	}
	return m
}

// small are limits of pages that are soon full.
func small() api.Limits {
	return api.Limits{Slots: 300, Pages: 60, Threads: 4, Rows: 2, Chain: 2, Count: 1 << 30}
}

// P15.3

func TestAllRowsOfTheSpan(t *testing.T) {
	t.Parallel()
	const alphabet = "abcdefghijklmnopqrstuvwxyz"
	for seed := range 30 {
		d := dice(seed*7919 + 1)
		l := small()
		l.Rows, l.Chain = 2+d.throw(3), 2+d.throw(3)
		m := memory(t, l)
		x := tree.NewThread(0)
		for k := range 20 + d.throw(60) {
			does(t, x, m, d.call(2+d.throw(25), k))
		}
		all, err := tree.Scan(m)
		if err != nil {
			t.Fatal(err)
		}
		for low := range len(alphabet) {
			for high := low; high <= len(alphabet); high++ {
				s := bkey.Span{Low: alphabet[low : low+1], Unbounded: high == len(alphabet)}
				if !s.Unbounded {
					s.High = alphabet[high:high+1] + "\x00"
				}
				if low == 0 {
					s.Low = ""
				}
				limit, reverse := d.throw(4)*d.throw(9), d.throw(2) == 0
				c := begin(t, x, s, limit, reverse)
				for !c.Step(m) {
				}
				if got, err := c.Rows(); err != nil || !slices.Equal(got, rows.Take(all, s, limit, reverse)) {
					t.Fatalf("seed %d: %v, limit %d, reversed is %v: %q, %v", seed, s, limit, reverse, keys(got), err)
				}
				exact(t, c, all)
			}
		}
	}
}

// exact asks that pieces are just what rows have there.
func exact(t *testing.T, c *cursor.Cursor, all []api.Row) {
	t.Helper()
	for _, p := range c.Pieces() {
		if !slices.Equal(p.Rows, rows.Take(all, p.Span, 0, false)) {
			t.Fatalf("%q is not what %q has there", tell([]cursor.Piece{p}), keys(all))
		}
	}
}

// What the chapter says, access by access.

// others are what other threads do ahead of an access.
type others map[int]func(*mem.Memory)

// script is what the chapter says in a row, and what the memory is after each access.
type script struct {
	trace  []*mem.Memory
	rows   []api.Row
	pieces []cursor.Piece
	err    error
}

// chapter does the batches of a thread, one after the other.
func chapter(t *testing.T, m *mem.Memory, s bkey.Span, limit int, reverse bool, other others) script {
	t.Helper()
	var made script
	x := tree.NewThread(1)
	for {
		if err := x.StartBatch(s, reverse); err != nil {
			t.Fatal(err)
		}
		for x.Pending() {
			if f := other[len(made.trace)]; f != nil {
				f(m)
			}
			x.Step(m)
			made.trace = append(made.trace, m.Copy())
		}
		b, err := x.Batch()
		if err != nil || b.Err != nil {
			made.rows, made.err = nil, b.Err
			return made
		}
		made.rows = append(made.rows, b.Rows...)
		made.pieces = append(made.pieces, piece(s, b, reverse))
		if b.Ended || limit >= 1 && len(made.rows) >= limit {
			break
		}
		s = b.Rest
	}
	if limit >= 1 && limit < len(made.rows) {
		made.rows = made.rows[:limit]
	}
	return made
}

// piece is that of a batch of a span.
func piece(s bkey.Span, b tree.Batch, reverse bool) cursor.Piece {
	p := cursor.Piece{Span: s, Rows: rows.Take(b.Rows, span("", ""), 0, reverse)}
	switch {
	case b.Ended:
	case reverse:
		p.Span.Low = b.Rest.High
	default:
		p.Span = bkey.Span{Low: s.Low, High: b.Rest.Low}
	}
	return p
}

// follows asks that a cursor does what the chapter says.
func follows(t *testing.T, m *mem.Memory, s bkey.Span, limit int, reverse bool, other others) script {
	t.Helper()
	want := chapter(t, m.Copy(), s, limit, reverse, other)
	c := begin(t, tree.NewThread(1), s, limit, reverse)
	for k, after := range want.trace {
		if f := other[k]; f != nil {
			f(m)
		}
		if finished := c.Step(m); finished != (k+1 == len(want.trace)) {
			t.Fatalf("%v: step %d of %d is %v", s, k+1, len(want.trace), finished)
		}
		if !reflect.DeepEqual(m, after) {
			t.Fatalf("%v: access %d is another one", s, k+1)
		}
	}
	ends(t, "as the chapter says", c, m)
	l, err := c.Rows()
	if !slices.Equal(l, want.rows) || !reflect.DeepEqual(err, want.err) || tell(c.Pieces()) != tell(want.pieces) {
		t.Fatalf("%v, limit %d, reversed is %v: %q, %v, %q, not %q, %v, %q", s, limit, reverse,
			keys(l), err, tell(c.Pieces()), keys(want.rows), want.err, tell(want.pieces))
	}
	return want
}

func TestTheChapterAccessByAccess(t *testing.T) {
	t.Parallel()
	failures := 0
	for seed := range 600 {
		d := dice(seed*7919 + 2)
		l := small()
		l.Count = 1000
		m := grown(t, l, "fbdace")
		if seed%3 == 0 { // there will be no slots for helpers at times
			for range l.Slots - len(m.Live()) - 7 {
				m.Alloc(api.Record{})
			}
		}
		other := others{}
		for range d.throw(9) {
			c := d.call(7, 15+d.throw(25))
			other[d.throw(60)] = func(m *mem.Memory) {
				x := tree.NewThread(2)
				x.Start(c)
				for !x.Step(m) {
				}
			}
		}
		if d.throw(5) == 0 {
			other[d.throw(40)] = func(m *mem.Memory) {
				for _, err := m.Bump(); err == nil; _, err = m.Bump() {
				}
			}
		}
		if follows(t, m, d.span(7), d.throw(3)*d.throw(4), d.throw(2) == 0, other).err != nil {
			failures++
		}
	}
	if failures < 20 || failures > 300 {
		t.Error("not what is to be expected:", failures)
	}
}

// T4

// watched is a cursor, and when its batches were made.
type watched struct {
	*cursor.Cursor
	thread  *tree.Thread
	span    bkey.Span
	limit   int
	reverse bool
	begin   int   // at which moment it began
	from    int   // at which moment its batch began
	starts  []int // of the batches that have finished, and
	ends    []int // when they had
}

// world is a memory, and the rows that it had from its first moment on: one is before the first access, and one after each of them.
type world struct {
	t       *testing.T
	m       *mem.Memory
	moments [][]api.Row
}

// newWorld is a world at its first moment.
func newWorld(t *testing.T, m *mem.Memory) *world {
	t.Helper()
	w := &world{t: t, m: m}
	w.note()
	return w
}

// note notes the rows of a moment.
func (w *world) note() {
	w.t.Helper()
	l, err := tree.Scan(w.m)
	if err != nil {
		w.t.Fatal(err)
	}
	w.moments = append(w.moments, l)
}

// now is the moment.
func (w *world) now() int { return len(w.moments) - 1 }

// watch is a cursor that is watched from now on.
func (w *world) watch(x *tree.Thread, s bkey.Span, limit int, reverse bool) *watched {
	w.t.Helper()
	return &watched{Cursor: begin(w.t, x, s, limit, reverse), thread: x, span: s, limit: limit, reverse: reverse, begin: w.now()}
}

// step makes a step of a thread.
func (w *world) step(x *tree.Thread) bool {
	w.t.Helper()
	finished := x.Step(w.m)
	w.note()
	return finished
}

// advance makes a step of a cursor that is not over.
func (w *world) advance(c *watched) bool {
	w.t.Helper()
	if !c.thread.Pending() {
		c.from = w.now()
	}
	had := len(c.Pieces())
	finished := c.Step(w.m)
	w.note()
	if len(c.Pieces()) > had {
		c.starts, c.ends = append(c.starts, c.from), append(c.ends, w.now())
	}
	return finished
}

// code is the code in an error, and 0 without one.
func code(err error) api.Code {
	var c api.Code
	errors.As(err, &c)
	return c
}

// check asks for all that holds of a cursor that is over, and returns the code of its error.
func (w *world) check(name string, c *watched) api.Code {
	w.t.Helper()
	l, err := c.Rows()
	pieces := c.Pieces()
	wrong := func(what string) {
		w.t.Helper()
		w.t.Fatalf("%s: %s: %v, limit %d, reversed is %v: %q, %v of %q; from %q to %q", name, what, c.span, c.limit, c.reverse,
			keys(l), err, tell(pieces), keys(w.moments[c.begin]), keys(w.moments[w.now()]))
	}
	for k, p := range pieces {
		if !w.fits(p, c.starts[k], c.ends[k]) {
			wrong("a piece that its span never had")
		}
	}
	if what := c.gap(pieces, err); what != "" {
		wrong(what)
	}
	var all []api.Row
	for _, p := range pieces {
		all = append(all, rows.Take(p.Rows, span("", ""), 0, c.reverse)...)
	}
	if what := w.amiss(c, all, pieces); what != "" {
		wrong(what)
	}
	if c.limit >= 1 && len(all) > c.limit {
		all = all[:c.limit]
	}
	if err == nil && !slices.Equal(l, all) || err != nil && len(l) > 0 {
		wrong("rows that are not those of the pieces")
	}
	return code(err)
}

// fits tells whether a piece is what its span had at one moment.
func (w *world) fits(p cursor.Piece, from, to int) bool {
	return slices.ContainsFunc(w.moments[from:to+1], func(l []api.Row) bool {
		return slices.Equal(p.Rows, rows.Take(l, p.Span, 0, false))
	})
}

// gap is what is wrong with the spans of pieces: they lie side by side, from one end of the span on, and to the other one unless there was an error or the limit was reached.
func (c *watched) gap(pieces []cursor.Piece, err error) string {
	rest, read := c.span, 0
	for k, p := range pieces {
		switch {
		case k > 0 && c.limit >= 1 && read >= c.limit:
			return "a piece beyond the limit"
		case rest == (bkey.Span{}):
			return "a piece beyond the span"
		case !c.reverse && p.Span.Low != rest.Low, c.reverse && (p.Span.High != rest.High || p.Span.Unbounded != rest.Unbounded):
			return "pieces that are apart"
		case p.Span.Unbounded && p.Span.High != "", !p.Span.Unbounded && p.Span.Low >= p.Span.High:
			return "a piece of nothing"
		}
		read += len(p.Rows)
		switch {
		case p.Span == rest:
			rest = bkey.Span{}
		case c.reverse:
			rest.High, rest.Unbounded = p.Span.Low, false
		default:
			rest.Low = p.Span.High
		}
	}
	if err == nil && rest != (bkey.Span{}) && (c.limit < 1 || read < c.limit) {
		return "an end too early"
	}
	return ""
}

// amiss is what is wrong with rows: each of them lies in the span, in order, once, and was there at some moment; no row of the pieces' spans is lost that was there all the time.
func (w *world) amiss(c *watched, all []api.Row, pieces []cursor.Piece) string {
	moments := w.moments[c.begin:]
	for k, r := range all {
		switch {
		case !bkey.In(c.span.Low, c.span.High, c.span.Unbounded, r.Key):
			return "a key beyond the span"
		case k > 0 && (all[k-1].Key < r.Key) == c.reverse || k > 0 && all[k-1].Key == r.Key:
			return "keys that are not in order"
		case !slices.ContainsFunc(moments, func(l []api.Row) bool { return slices.Contains(l, r) }):
			return "a value that a key never had"
		}
	}
	for _, r := range moments[0] {
		covered := slices.ContainsFunc(pieces, func(p cursor.Piece) bool {
			return bkey.In(p.Span.Low, p.Span.High, p.Span.Unbounded, r.Key)
		})
		gone := slices.ContainsFunc(moments, func(l []api.Row) bool {
			_, there := rows.Find(l, r.Key)
			return !there
		})
		if _, there := rows.Find(rows.Take(all, span("", ""), 0, c.reverse), r.Key); covered && !gone && !there {
			return "a key that is lost"
		}
	}
	return ""
}

// play lets cursors of the first threads and writers of the others take turns until the writers have done so many calls.
func (w *world) play(d *dice, cursors, writers, calls, keys int) map[api.Code]int {
	w.t.Helper()
	codes := map[api.Code]int{}
	var threads []*tree.Thread
	for n := range cursors + writers {
		threads = append(threads, tree.NewThread(n))
	}
	open := make([]*watched, cursors)
	for done := 0; done < calls; {
		n := d.throw(len(threads))
		for range 1 + d.throw(3)*d.throw(12) {
			switch {
			case n < cursors && open[n] == nil:
				open[n] = w.watch(threads[n], d.span(keys), d.throw(3)*d.throw(5), d.throw(2) == 0)
			case n < cursors:
				if w.advance(open[n]) {
					codes[w.check("cursor "+strconv.Itoa(n), open[n])]++
					open[n] = nil
				}
			case !threads[n].Pending():
				if err := threads[n].Start(d.call(keys, done)); err != nil {
					w.t.Fatal(err)
				}
			default:
				if w.step(threads[n]) {
					done++
				}
			}
		}
	}
	for n, c := range open {
		for c != nil && !c.Over() {
			w.advance(c)
		}
		if c != nil {
			codes[w.check("cursor "+strconv.Itoa(n)+", the last one", c)]++
		}
	}
	return codes
}

// sum adds how often there were codes.
func sum(to, from map[api.Code]int) {
	for c, n := range from {
		to[c] += n
	}
}

func TestCursorsAmongWriters(t *testing.T) {
	t.Parallel()
	codes := map[api.Code]int{}
	for seed := range 100 {
		d := dice(seed*7919 + 3)
		l := small()
		l.Rows, l.Chain = 2+d.throw(2), 2+d.throw(3)
		w := newWorld(t, memory(t, l))
		sum(codes, w.play(&d, 2, 2, 60, 4+d.throw(12)))
	}
	if codes[0] < 1000 || len(codes) > 1 {
		t.Error("not what is to be expected:", codes)
	}
}

func TestCursorsWithLittleSpace(t *testing.T) {
	t.Parallel()
	codes := map[api.Code]int{}
	for seed := range 150 {
		d := dice(seed*7919 + 4)
		l := small()
		l.Slots, l.Pages = 8+d.throw(25), 4+d.throw(9)
		w := newWorld(t, memory(t, l))
		sum(codes, w.play(&d, 2, 2, 60, 4+d.throw(12)))
	}
	delete(codes, api.ErrFull) // a batch that helps needs space, too
	if codes[0] < 1000 || len(codes) > 1 {
		t.Error("not what is to be expected:", codes)
	}
}

func TestCursorsWithLowCounters(t *testing.T) {
	t.Parallel()
	codes := map[api.Code]int{}
	for seed := range 150 {
		d := dice(seed*7919 + 5)
		l := small()
		l.Count = 20 + d.throw(60)
		w := newWorld(t, memory(t, l))
		sum(codes, w.play(&d, 2, 2, 60, 4+d.throw(12)))
	}
	if codes[0] < 500 || codes[api.ErrExhausted] == 0 || len(codes) > 2 {
		t.Error("not what is to be expected:", codes)
	}
}

// A cursor is interrupted after each of its accesses, for each number of accesses of a writer, which goes on when the cursor is over.
func TestCursorsInAllOrders(t *testing.T) {
	for k, c := range []struct {
		keys  string
		calls []api.Call
		span  bkey.Span
	}{
		{"aceg", []api.Call{put("b"), put("d")}, span("", "")},
		{"acegi", []api.Call{remove("c"), put("c")}, span("", "")},
		{"fbdace", []api.Call{remove("a"), remove("b"), put("aa")}, span("b", "")},
		{"abc", []api.Call{put("d"), put("e"), remove("c")}, span("a", "d")},
		{"gfedcba", []api.Call{remove("e"), put("e"), put("ee")}, span("", "f")},
	} {
		for _, reverse := range []bool{false, true} {
			name := "case " + strconv.Itoa(k) + ", reversed is " + strconv.FormatBool(reverse)
			t.Run(name, func(t *testing.T) {
				t.Parallel()
				if orders := interrupt(t, name, grown(t, small(), c.keys), c.calls, c.span, reverse); orders < 500 {
					t.Errorf("%d orders", orders)
				}
			})
		}
	}
}

// interrupt lets a cursor be interrupted in every way, and returns how many there are.
func interrupt(t *testing.T, name string, m *mem.Memory, calls []api.Call, s bkey.Span, reverse bool) int {
	t.Helper()
	orders := 0
	for before := 0; ; before++ {
		for during := 1; ; during++ {
			w := newWorld(t, m.Copy())
			c := w.watch(tree.NewThread(1), s, 0, reverse)
			for range before {
				if w.advance(c) {
					return orders
				}
			}
			left := w.writes(calls, during)
			for !c.Over() {
				w.advance(c)
			}
			if e := w.check(name, c); e != 0 {
				t.Fatal(name, e)
			}
			orders++
			if left { // the writer had done all it had to do
				break
			}
		}
	}
}

// writes makes so many accesses of a writer's calls, and reports whether it had to make fewer.
func (w *world) writes(calls []api.Call, n int) bool {
	x := tree.NewThread(2)
	for _, c := range calls {
		x.Start(c)
		for x.Pending() {
			if n == 0 {
				return false
			}
			n--
			w.step(x)
		}
	}
	return n > 0
}

// Example 6 of the whole.
func TestExample6(t *testing.T) {
	seen := map[string]bool{}
	for before := 0; ; before++ {
		w := newWorld(t, grown(t, small(), "acd"))
		c := w.watch(tree.NewThread(1), span("a", ""), 0, false)
		for range before {
			if !c.Over() {
				w.advance(c)
			}
		}
		if c.Over() {
			break
		}
		w.writes([]api.Call{put("b"), remove("c")}, most)
		for !c.Over() {
			w.advance(c)
		}
		w.check("example 6", c)
		l, err := c.Rows()
		got := keys(l)
		if err != nil || !strings.HasPrefix(got, "a") || !strings.HasSuffix(got, "d") {
			t.Errorf("after %d steps: %q, %v", before, got, err)
		}
		seen[got] = true
	}
	if !seen["acd"] || !seen["ab=new;d"] {
		t.Error("not what is to be expected:", seen)
	}
}
