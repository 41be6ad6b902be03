package cursor_test

import (
	"math"
	"reflect"
	"slices"
	"strings"
	"testing"

	"rowlock/api"
	"rowlock/bkey"
	"rowlock/cursor"
	"rowlock/mem"
	"rowlock/tree"
)

// span is one from low up to high, or without an end if high is "".
func span(low, high string) bkey.Span {
	return bkey.Span{Low: low, High: high, Unbounded: high == ""}
}

// list is a row for each byte of a text, which is its value, too.
func list(keys string) []api.Row {
	var l []api.Row
	for k := range len(keys) {
		l = append(l, api.Row{Key: keys[k : k+1], Value: keys[k : k+1]})
	}
	return l
}

// backward is a text from its last byte on.
func backward(text string) string {
	l := []byte(text)
	slices.Reverse(l)
	return string(l)
}

// memory is a new memory.
func memory(t *testing.T, l api.Limits) *mem.Memory {
	t.Helper()
	m, err := mem.New(l)
	if err != nil {
		t.Fatal(err)
	}
	return m
}

// set makes a record all there is of a page.
func set(t *testing.T, m *mem.Memory, n int, r api.Record) {
	t.Helper()
	old, err := m.Head(n)
	if err != nil {
		t.Fatal(err)
	}
	if old != (api.Ref{}) {
		err = m.Free(old)
	}
	x, e := m.Alloc(r)
	if ok, wrong := m.Swap(n, old, x); err != nil || e != nil || !ok || wrong != nil {
		t.Fatal(err, e, ok, wrong)
	}
}

// laid is a memory with a leaf of each text below page 0: page 1 of the first one, and so on. All but the first one begin at their first key.
func laid(t *testing.T, leaves ...string) *mem.Memory {
	t.Helper()
	m := memory(t, api.Limits{Slots: 60, Pages: 12, Threads: 3, Rows: 4, Chain: 4, Count: 1000})
	top := api.Record{Kind: api.InnerBase, Unbounded: true}
	for k, keys := range leaves {
		n, err := m.Take()
		if err != nil {
			t.Fatal(err)
		}
		r := api.Record{Kind: api.LeafBase, Unbounded: true, Rows: list(keys)}
		if k > 0 {
			r.Low = keys[:1]
		}
		if k+1 < len(leaves) {
			r.High, r.Unbounded, r.Right = leaves[k+1][:1], false, n+1
		}
		set(t, m, n, r)
		top.Entries = append(top.Entries, api.Entry{Key: r.Low, Page: n})
	}
	set(t, m, 0, top)
	return m
}

// each is how many accesses a batch of laid takes: for the clock, to enter, for page 0, for the leaf, and to leave.
const each = 1 + 1 + 2 + 2 + 1

// most is after how many steps something is given up.
const most = 5000

// does performs a call by a thread, and returns its reply.
func does(t *testing.T, x *tree.Thread, m *mem.Memory, c api.Call) api.Reply {
	t.Helper()
	if err := x.Start(c); err != nil {
		t.Fatal(c, err)
	}
	for range most {
		if x.Step(m) {
			break
		}
	}
	r, err := x.Reply()
	if err != nil {
		t.Fatal(c, err)
	}
	return r
}

func get(key string) api.Call    { return api.Call{Kind: api.Get, Key: key} }
func put(key string) api.Call    { return api.Call{Kind: api.Upsert, Key: key, Value: "new"} }
func remove(key string) api.Call { return api.Call{Kind: api.Delete, Key: key} }

// begin is a cursor.
func begin(t *testing.T, x *tree.Thread, s bkey.Span, limit int, reverse bool) *cursor.Cursor {
	t.Helper()
	c, err := cursor.New(x, s, limit, reverse)
	if c == nil || err != nil {
		t.Fatalf("New of %v: %v, %v", s, c, err)
	}
	return c
}

// step makes a step of a cursor that is not over, and reports whether it is then.
func step(t *testing.T, c *cursor.Cursor, m *mem.Memory) bool {
	t.Helper()
	if l, err := c.Rows(); c.Over() || len(l) > 0 || err != error(api.ErrBusy) {
		t.Fatalf("ahead of a step: Over is %v, and Rows %v, %v", c.Over(), l, err)
	}
	was := m.Count()
	finished := c.Step(m)
	if m.Count() != was+1 || finished != c.Over() {
		t.Fatalf("a step makes %d accesses, and is %v, and Over %v", m.Count()-was, finished, c.Over())
	}
	return finished
}

// some makes so many steps, after which the cursor is not over.
func some(t *testing.T, c *cursor.Cursor, m *mem.Memory, n int) {
	t.Helper()
	for range n {
		if step(t, c, m) {
			t.Fatal("the cursor is over early")
		}
	}
}

// steps makes steps until a cursor is over, and returns how many these were.
func steps(t *testing.T, c *cursor.Cursor, m *mem.Memory) int {
	t.Helper()
	for n := range most {
		if c.Over() {
			return n
		}
		step(t, c, m)
	}
	t.Fatal("the cursor does not come to an end")
	return 0
}

// ends asks that a step ends a cursor without an access.
func ends(t *testing.T, name string, c *cursor.Cursor, m *mem.Memory) {
	t.Helper()
	was := m.Copy()
	if !c.Step(m) || !c.Over() || !reflect.DeepEqual(m, was) {
		t.Errorf("%s: the cursor is not over, or was not without an access", name)
	}
}

// keys are rows in a few words.
func keys(l []api.Row) string {
	var text strings.Builder
	for _, r := range l {
		text.WriteString(r.Key)
		if r.Value != r.Key {
			text.WriteString("=" + r.Value + ";")
		}
	}
	return text.String()
}

// tell are pieces in a few words: of each of them its span, with a + if it is Unbounded, and its rows.
func tell(l []cursor.Piece) string {
	var all []string
	for _, p := range l {
		text := p.Span.Low + "-" + p.Span.High
		if p.Span.Unbounded {
			text += "+"
		}
		all = append(all, text+":"+keys(p.Rows))
	}
	return strings.Join(all, " ")
}

// returns asks for what a cursor returns that is over.
func returns(t *testing.T, name string, c *cursor.Cursor, want, pieces string) {
	t.Helper()
	l, err := c.Rows()
	if !c.Over() || keys(l) != want || err != nil {
		t.Errorf("%s: Over is %v, and Rows %q, %v, not %q", name, c.Over(), keys(l), err, want)
	}
	if got := tell(c.Pieces()); got != pieces {
		t.Errorf("%s: Pieces are %q, not %q", name, got, pieces)
	}
}

// failed asks for the error that ended a cursor, and for the pieces that stay.
func failed(t *testing.T, name string, c *cursor.Cursor, want error, pieces string) {
	t.Helper()
	l, err := c.Rows()
	if !c.Over() || len(l) > 0 || !reflect.DeepEqual(err, want) {
		t.Errorf("%s: Over is %v, and Rows %v, %v, not %v", name, c.Over(), l, err, want)
	}
	if got := tell(c.Pieces()); got != pieces {
		t.Errorf("%s: Pieces are %q, not %q", name, got, pieces)
	}
}

// in is an error as a batch has it: a code of a part of the memory, by way of the tree.
func in(n int, place string, slot int, c api.Code) error {
	return &api.Fault{Place: "tree", Slot: n, Err: &api.Fault{Place: place, Slot: slot, Err: c}}
}

// P15.1: New.

func TestNew(t *testing.T) {
	long := strings.Repeat("k", 16)
	for _, c := range []struct {
		span bkey.Span
		want bool
	}{
		{bkey.Span{Unbounded: true}, true}, {bkey.Span{Low: "a", Unbounded: true}, true}, {bkey.Span{Low: "a", High: "b"}, true},
		{bkey.Span{High: "b"}, true}, {bkey.Span{High: "\x00"}, true}, {bkey.Span{Low: "a", High: "a\x00"}, true},
		{bkey.Span{Low: long, Unbounded: true}, true}, {bkey.Span{Low: "a", High: long}, true},
		{bkey.Span{}, false}, {bkey.Span{Low: "a"}, false}, {bkey.Span{Low: "a", High: "a"}, false}, {bkey.Span{Low: "b", High: "a"}, false},
		{bkey.Span{High: "a", Unbounded: true}, false}, {bkey.Span{Low: "b", High: "a", Unbounded: true}, false},
		{bkey.Span{Low: long + "k", Unbounded: true}, false}, {bkey.Span{Low: "a", High: long + "k"}, false},
		{bkey.Span{Low: strings.Repeat(long, 99), High: "l"}, false},
	} {
		for _, reverse := range []bool{false, true} {
			for _, limit := range []int{0, 1, -1, math.MaxInt, math.MinInt} {
				x := tree.NewThread(0)
				y, err := cursor.New(x, c.span, limit, reverse)
				if c.want && (y == nil || err != nil) || !c.want && (y != nil || err != error(api.ErrArg)) {
					t.Errorf("New of %+v, %d, %v: %v, %v", c.span, limit, reverse, y, err)
				}
				if _, err := x.Batch(); x.Pending() || err != error(api.ErrState) {
					t.Error("New starts a batch:", err)
				}
				if y, err := cursor.New(nil, c.span, limit, reverse); y != nil || err != error(api.ErrArg) {
					t.Errorf("New without a thread: %v, %v", y, err)
				}
			}
		}
	}
}

func TestNewOfABusyThread(t *testing.T) {
	m := laid(t, "ab", "cd")
	x := tree.NewThread(1)
	x.Start(get("c"))
	x.Step(m)
	c := begin(t, x, span("", ""), 0, false)
	if !x.Pending() || c.Over() {
		t.Error("New makes something of what is pending")
	}
	for !x.Step(m) {
	}
	if r, err := x.Reply(); r.Value != "c" || err != nil {
		t.Error("the call is another one:", r, err)
	}
	steps(t, c, m) // it is not busy by now
	returns(t, "a thread that was busy", c, "abcd", "-c:ab c-+:cd")
}

// P15.1: steps, and example 1.

func TestTwoLeaves(t *testing.T) {
	for _, c := range []struct {
		reverse      bool
		want, pieces string
	}{{false, "abcd", "-c:ab c-+:cd"}, {true, "dcba", "c-+:cd -c:ab"}} {
		m := laid(t, "ab", "cd")
		x := tree.NewThread(1)
		y := begin(t, x, span("", ""), 0, c.reverse)
		if n := steps(t, y, m); n != 2*each {
			t.Errorf("%d steps", n)
		}
		returns(t, "example 1", y, c.want, c.pieces)
	}
}

// The batches are those of the thread, and are started with their first accesses.
func TestTheThreadOfACursor(t *testing.T) {
	m := laid(t, "ab", "cd")
	x := tree.NewThread(1)
	c := begin(t, x, span("", ""), 0, false)
	if x.Pending() || tell(c.Pieces()) != "" {
		t.Error("a batch is there already")
	}
	for k := 1; k <= 2*each; k++ {
		if finished := step(t, c, m); finished != (k == 2*each) {
			t.Fatalf("step %d is %v", k, finished)
		}
		if x.Pending() != (k%each > 0) {
			t.Errorf("after %d steps the thread's Pending is %v", k, x.Pending())
		}
		if x.Pending() && (x.Start(get("a")) != error(api.ErrBusy) || x.StartBatch(span("", ""), false) != error(api.ErrBusy)) {
			t.Error("the thread is not busy")
		}
		if want := []string{"", "-c:ab", "-c:ab c-+:cd"}[k/each]; tell(c.Pieces()) != want {
			t.Errorf("after %d steps the pieces are %q", k, tell(c.Pieces()))
		}
	}
	if b, err := x.Batch(); keys(b.Rows) != "cd" || !b.Ended || err != nil {
		t.Errorf("the last batch is %+v, %v", b, err)
	}
	if _, err := x.Reply(); err != error(api.ErrState) {
		t.Error("a cursor calls:", err)
	}
}

func TestACursorThatIsOver(t *testing.T) {
	m := laid(t, "ab", "cd")
	x := tree.NewThread(1)
	c := begin(t, x, span("", "d"), 0, true)
	steps(t, c, m)
	for range 3 {
		ends(t, "over already", c, m)
		if !c.Step(nil) || x.Pending() {
			t.Error("a step of what is over")
		}
	}
	does(t, x, m, put("b"))
	ends(t, "over already", c, m)
	returns(t, "later changes", c, "cba", "c-d:c -c:ab")
	x.Start(get("a"))
	x.Step(m)
	ends(t, "over while the thread is busy", c, m)
	returns(t, "while the thread is busy", c, "cba", "c-d:c -c:ab")
	x.StartBatch(span("b", "c"), false)
	for !x.Step(m) {
	}
	returns(t, "after another batch", c, "cba", "c-d:c -c:ab")
}

func TestSpans(t *testing.T) {
	for _, c := range []struct {
		span             bkey.Span
		want             string
		pieces, backward string
	}{
		{span: span("", ""), want: "abcdef", pieces: "-c:ab c-e:cd e-+:ef", backward: "e-+:ef c-e:cd -c:ab"},
		{span: span("a", ""), want: "abcdef", pieces: "a-c:ab c-e:cd e-+:ef", backward: "e-+:ef c-e:cd a-c:ab"},
		{span: span("b", "e"), want: "bcd", pieces: "b-c:b c-e:cd", backward: "c-e:cd b-c:b"},
		{span: span("b", "ee"), want: "bcde", pieces: "b-c:b c-e:cd e-ee:e", backward: "e-ee:e c-e:cd b-c:b"},
		{span: span("bb", "dd"), want: "cd", pieces: "bb-c: c-dd:cd", backward: "c-dd:cd bb-c:"},
		{span: span("c", "e"), want: "cd", pieces: "c-e:cd", backward: "c-e:cd"},
		{span: span("cc", "d"), want: "", pieces: "cc-d:", backward: "cc-d:"},
		{span: span("", "a"), want: "", pieces: "-a:", backward: "-a:"},
		{span: span("", "c"), want: "ab", pieces: "-c:ab", backward: "-c:ab"},
		{span: span("", "c\x00"), want: "abc", pieces: "-c:ab c-c\x00:c", backward: "c-c\x00:c -c:ab"},
		{span: span("z", ""), want: "", pieces: "z-+:", backward: "z-+:"},
		{span: span("e", ""), want: "ef", pieces: "e-+:ef", backward: "e-+:ef"},
		{span: span("d", "z"), want: "def", pieces: "d-e:d e-z:ef", backward: "e-z:ef d-e:d"},
		{span: span("f", "z"), want: "f", pieces: "f-z:f", backward: "f-z:f"},
	} {
		for _, limit := range []int{0, -1, math.MinInt, 7, math.MaxInt} {
			m := laid(t, "ab", "cd", "ef")
			x := tree.NewThread(2)
			y := begin(t, x, c.span, limit, false)
			n := steps(t, y, m)
			returns(t, "forward", y, c.want, c.pieces)
			y = begin(t, x, c.span, limit, true)
			if k := steps(t, y, m); k != n || n != each*len(strings.Split(c.pieces, " ")) {
				t.Errorf("%v: %d steps, and %d backward", c.span, n, k)
			}
			returns(t, "backward", y, backward(c.want), c.backward)
		}
	}
}

// P15.2: the limit.

func TestLimits(t *testing.T) {
	for _, c := range []struct {
		limit          int
		want, pieces   string
		back, backward string
	}{
		{1, "b", "b-c:b", "g", "e-h:efg"},
		{2, "bc", "b-c:b c-e:cd", "gf", "e-h:efg"},
		{3, "bcd", "b-c:b c-e:cd", "gfe", "e-h:efg"},
		{4, "bcde", "b-c:b c-e:cd e-h:efg", "gfed", "e-h:efg c-e:cd"},
		{5, "bcdef", "b-c:b c-e:cd e-h:efg", "gfedc", "e-h:efg c-e:cd"},
		{6, "bcdefg", "b-c:b c-e:cd e-h:efg", "gfedcb", "e-h:efg c-e:cd b-c:b"},
		{7, "bcdefg", "b-c:b c-e:cd e-h:efg", "gfedcb", "e-h:efg c-e:cd b-c:b"},
	} {
		m := laid(t, "ab", "cd", "efgh")
		x := tree.NewThread(0)
		y := begin(t, x, span("b", "h"), c.limit, false)
		if n := steps(t, y, m); n != each*len(strings.Split(c.pieces, " ")) {
			t.Errorf("limit %d: %d steps", c.limit, n)
		}
		returns(t, "a limit", y, c.want, c.pieces)
		ends(t, "a limit", y, m)
		y = begin(t, x, span("b", "h"), c.limit, true)
		if n := steps(t, y, m); n != each*len(strings.Split(c.backward, " ")) {
			t.Errorf("limit %d, backward: %d steps", c.limit, n)
		}
		returns(t, "a limit, backward", y, c.back, c.backward)
	}
}

// Leaves without rows do not reach a limit.
func TestALimitBeyondEmptyLeaves(t *testing.T) {
	m := laid(t, "ab", "cd", "ef")
	x, y := tree.NewThread(0), tree.NewThread(1)
	for _, k := range []string{"c", "d"} {
		does(t, y, m, remove(k))
	}
	c := begin(t, x, span("b", ""), 2, false)
	steps(t, c, m)
	returns(t, "an empty leaf", c, "be", "b-c:b c-e: e-+:ef")
	c = begin(t, x, span("", "f"), 2, true)
	steps(t, c, m)
	returns(t, "an empty leaf, backward", c, "eb", "e-f:e c-e: -c:ab")
	c = begin(t, x, span("c", "e"), 1, true)
	steps(t, c, m)
	returns(t, "nothing else", c, "", "c-e:")
}

func TestANewTree(t *testing.T) {
	for _, reverse := range []bool{false, true} {
		m := memory(t, api.Limits{Slots: 9, Pages: 3, Threads: 1, Rows: 2, Chain: 2, Count: 1000})
		c := begin(t, tree.NewThread(0), span("a", ""), 1, reverse)
		if n := steps(t, c, m); n != 5 {
			t.Errorf("%d steps", n)
		}
		returns(t, "a new tree", c, "", "a-+:")
	}
}

// P15.1: errors.

func TestABusyThread(t *testing.T) {
	for _, pending := range []func(*tree.Thread){
		func(x *tree.Thread) { x.Start(get("c")) },
		func(x *tree.Thread) { x.StartBatch(span("d", ""), true) },
		func(x *tree.Thread) { x.Sweep() },
	} {
		m := laid(t, "ab", "cd")
		x := tree.NewThread(0)
		c := begin(t, x, span("", ""), 0, false)
		pending(x)
		x.Step(m)
		ends(t, "busy at first", c, m)
		failed(t, "busy at first", c, api.ErrBusy, "")
		for !x.Step(m) {
		}
		ends(t, "busy at first, but not later", c, m)
		failed(t, "busy at first, but not later", c, api.ErrBusy, "")

		c = begin(t, x, span("", ""), 0, false)
		some(t, c, m, each)
		pending(x)
		ends(t, "busy after a batch", c, m)
		failed(t, "busy after a batch", c, api.ErrBusy, "-c:ab")
		if !x.Pending() {
			t.Error("what was pending is gone")
		}
	}
}

func TestTwoCursorsOfOneThread(t *testing.T) {
	m := laid(t, "ab", "cd")
	x := tree.NewThread(0)
	c, d := begin(t, x, span("", ""), 0, false), begin(t, x, span("b", ""), 0, true)
	some(t, c, m, each-1)
	ends(t, "the other one is ahead", d, m)
	failed(t, "the other one is ahead", d, api.ErrBusy, "")
	steps(t, c, m)
	returns(t, "it was ahead", c, "abcd", "-c:ab c-+:cd")

	c, d = begin(t, x, span("", ""), 0, false), begin(t, x, span("b", ""), 0, true)
	for _, y := range []*cursor.Cursor{c, d} { // by turns, a batch each
		some(t, y, m, each)
	}
	for _, y := range []*cursor.Cursor{c, d} {
		some(t, y, m, each-1)
		if !step(t, y, m) {
			t.Error("the cursor is not over")
		}
	}
	returns(t, "by turns", c, "abcd", "-c:ab c-+:cd")
	returns(t, "by turns, backward", d, "dcb", "c-+:cd b-c:b")
}

func TestErrorsOfBatches(t *testing.T) {
	for _, reverse := range []bool{false, true} {
		m := laid(t, "ab", "cd", "ef")
		c := begin(t, tree.NewThread(5), span("", ""), 0, reverse)
		if n := steps(t, c, m); n != 2 {
			t.Errorf("no such thread: %d steps", n)
		}
		failed(t, "no such thread", c, in(5, "clock", 5, api.ErrArg), "")
		ends(t, "no such thread", c, m)

		m.Give(2)
		x := tree.NewThread(1)
		c = begin(t, x, span("", ""), 0, reverse)
		if n := steps(t, c, m); n != each+each-1 {
			t.Errorf("a page that is free: %d steps", n)
		}
		pieces := map[bool]string{false: "-c:ab", true: "e-+:ef"}[reverse]
		failed(t, "a page that is free", c, in(1, "table", 2, api.ErrNone), pieces)
		ends(t, "a page that is free", c, m)

		c = begin(t, x, span("", ""), 3, reverse)
		steps(t, c, m)
		failed(t, "a page that is free, and a limit", c, in(1, "table", 2, api.ErrNone), pieces)
		c = begin(t, x, span("", ""), 2, reverse) // that page is not needed
		steps(t, c, m)
		returns(t, "a limit ahead of the page that is free", c, map[bool]string{false: "ab", true: "fe"}[reverse], pieces)

		c = begin(t, x, span("", ""), 0, reverse)
		some(t, c, m, each)
		for !c.Step(nil) {
		}
		failed(t, "no memory", c, &api.Fault{Place: "tree", Slot: 1, Err: api.ErrArg}, pieces)

		c = begin(t, x, span("", ""), 0, reverse)
		some(t, c, m, each)
		for _, err := m.Bump(); err == nil; _, err = m.Bump() {
		}
		if n := steps(t, c, m); n != 1 {
			t.Errorf("the clock at its end: %d steps", n)
		}
		failed(t, "the clock at its end", c, in(1, "clock", 0, api.ErrExhausted), pieces)
	}
}

// Steps of the thread are steps of its batch, too.
func TestAThreadThatMakesStepsByItself(t *testing.T) {
	m := laid(t, "ab", "cd")
	x := tree.NewThread(0)
	c := begin(t, x, span("", ""), 0, false)
	some(t, c, m, 1)
	for !x.Step(m) {
	}
	if got := tell(c.Pieces()); got != "-c:ab" || c.Over() {
		t.Errorf("the pieces are %q, and Over is %v", got, c.Over())
	}
	some(t, c, m, 2) // the first access of the next batch, and another one
	if b, err := x.Batch(); err != error(api.ErrBusy) {
		t.Error(b, err)
	}
	for !x.Step(m) {
	}
	if !c.Over() {
		t.Error("its last batch has finished")
	}
	ends(t, "finished by the thread", c, m)
	returns(t, "finished by the thread", c, "abcd", "-c:ab c-+:cd")

	for _, ask := range []func(*cursor.Cursor){
		func(c *cursor.Cursor) { c.Over() },
		func(c *cursor.Cursor) { c.Rows() },
		func(c *cursor.Cursor) { c.Pieces() },
		func(c *cursor.Cursor) { ends(t, "finished by the thread", c, m) },
	} {
		c = begin(t, x, span("c", ""), 0, false)
		some(t, c, m, 1)
		for !x.Step(m) {
		}
		ask(c)
		x.StartBatch(span("", "b"), true)
		for !x.Step(m) {
		}
		returns(t, "asked ahead of another batch", c, "cd", "c-+:cd")
	}

	c = begin(t, x, span("", ""), 0, false)
	some(t, c, m, 1)
	*x = *tree.NewThread(0)
	ends(t, "a thread that has no batch any more", c, m)
	failed(t, "a thread that has no batch any more", c, api.ErrState, "")
}

// P15.2: what there is without a cursor.

func TestNoCursor(t *testing.T) {
	m := laid(t, "ab", "cd")
	var none *cursor.Cursor
	ends(t, "nil", none, m)
	failed(t, "nil", none, api.ErrArg, "")
	if !none.Step(nil) {
		t.Error("nil is not over")
	}
	ends(t, "one that is not from New", &cursor.Cursor{}, m)
	returns(t, "one that is not from New", &cursor.Cursor{}, "", "")
}

// Memory.

// spoil overwrites rows, and what there is room for behind them.
func spoil(l []api.Row) {
	l = l[:cap(l)]
	for k := range l {
		l[k] = api.Row{Key: "spoiled", Value: "spoiled"}
	}
}

func TestResultsShareNoMemory(t *testing.T) {
	for _, reverse := range []bool{false, true} {
		m := laid(t, "ab", "cd", "ef")
		x := tree.NewThread(0)
		c := begin(t, x, span("", ""), 0, reverse)
		want, pieces := "abcdef", []string{"-c:ab", "c-e:cd", "e-+:ef"}
		if reverse {
			want = backward(want)
			slices.Reverse(pieces)
		}
		for k := 1; k <= len(pieces); k++ {
			for range each {
				step(t, c, m)
			}
			b, _ := x.Batch()
			spoil(b.Rows)
			l := c.Pieces()
			for i := range l {
				spoil(l[i].Rows)
				for j := range l {
					if j > i && tell(l[j:j+1]) != pieces[j] {
						t.Error("pieces share memory")
					}
				}
			}
			l = l[:cap(l)]
			for i := range l {
				l[i] = cursor.Piece{}
			}
			if got := tell(c.Pieces()); got != strings.Join(pieces[:k], " ") {
				t.Errorf("Pieces shares memory: %q", got)
			}
		}
		for range 3 {
			l, err := c.Rows()
			if keys(l) != want || err != nil {
				t.Errorf("Rows shares memory: %v, %v", l, err)
			}
			p := c.Pieces()
			spoil(l)
			if tell(p) != strings.Join(pieces, " ") {
				t.Error("Rows and Pieces share memory")
			}
		}
		returns(t, "spoiled", c, want, strings.Join(pieces, " "))
	}
}

// A cursor that was copied as a value has pieces of its own from then on.
func TestACopyOfACursor(t *testing.T) {
	for k := range 5 {
		m := laid(t, "a", "b", "c", "d", "e", "f")
		x := tree.NewThread(0)
		c := begin(t, x, span("", ""), 0, false)
		some(t, c, m, k*each)
		d := *c
		some(t, &d, m, each)
		kept := tell(d.Pieces())
		does(t, x, m, put(string([]byte{byte('a' + k)})))
		steps(t, c, m)
		if got := tell(d.Pieces()); got != kept {
			t.Errorf("after %d batches: %q, not %q", k, got, kept)
		}
		l, err := c.Rows()
		want := strings.Replace("abcdef", string([]byte{byte('a' + k)}), string([]byte{byte('a' + k)})+"=new;", 1)
		if keys(l) != want || err != nil {
			t.Errorf("after %d batches: %q, %v, not %q", k, keys(l), err, want)
		}
	}
}
