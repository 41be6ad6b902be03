package tree_test

import (
	"math"
	"reflect"
	"strconv"
	"strings"
	"testing"

	"rowlock/api"
	"rowlock/bkey"
	"rowlock/epoch"
	"rowlock/leaf"
	"rowlock/mem"
	"rowlock/page"
	"rowlock/tree"
)

func ref(slot, gen int) api.Ref { return api.Ref{Slot: slot, Gen: gen} }

// limits are those of the most tests.
func limits() api.Limits {
	return api.Limits{Slots: 40, Pages: 9, Threads: 3, Rows: 4, Chain: 4, Count: 1000}
}

// memory is a new memory.
func memory(t *testing.T, l api.Limits) *mem.Memory {
	t.Helper()
	m, err := mem.New(l)
	if err != nil {
		t.Fatal(err)
	}
	return m
}

// list is a row for each byte of a text, which is its value, too.
func list(keys string) []api.Row {
	var l []api.Row
	for k := range len(keys) {
		l = append(l, api.Row{Key: keys[k : k+1], Value: keys[k : k+1]})
	}
	return l
}

// base is a leaf from low up to high, or without an end if high is "".
func base(low, high string, right int, keys string) api.Record {
	return api.Record{Kind: api.LeafBase, Low: low, High: high, Unbounded: high == "", Right: right, Rows: list(keys)}
}

// upper is an inner page without bounds.
func upper(entries ...api.Entry) api.Record {
	return api.Record{Kind: api.InnerBase, Unbounded: true, Entries: entries}
}

// write puts a record in front of a page, and returns its ref.
func write(t *testing.T, m *mem.Memory, n int, r api.Record) api.Ref {
	t.Helper()
	old, err := m.Head(n)
	if err != nil {
		t.Fatal(err)
	}
	r.Next = old
	x, err := m.Alloc(r)
	if ok, e := m.Swap(n, old, x); err != nil || !ok || e != nil {
		t.Fatal(err, ok, e)
	}
	return x
}

// replace puts a record in place of a page.
func replace(t *testing.T, m *mem.Memory, n int, r api.Record) {
	t.Helper()
	_, refs, err := m.Chain(n)
	if err != nil {
		t.Fatal(err)
	}
	for _, x := range refs {
		m.Free(x)
	}
	x, err := m.Alloc(r)
	if ok, e := m.Swap(n, refs[0], x); err != nil || !ok || e != nil {
		t.Fatal(err, ok, e)
	}
}

// add makes a new page of a record.
func add(t *testing.T, m *mem.Memory, r api.Record) int {
	t.Helper()
	n, err := m.Take()
	if err != nil {
		t.Fatal(err)
	}
	write(t, m, n, r)
	return n
}

// laid is a memory with leaves a b, c d, and e f, of pages 1 to 3 below page 0.
func laid(t *testing.T) *mem.Memory {
	t.Helper()
	return laidIn(t, limits())
}

// laidIn is laid with other limits.
func laidIn(t *testing.T, l api.Limits) *mem.Memory {
	t.Helper()
	m := memory(t, l)
	add(t, m, base("", "c", 2, "ab"))
	add(t, m, base("c", "e", 3, "cd"))
	add(t, m, base("e", "", 0, "ef"))
	replace(t, m, 0, upper(api.Entry{Page: 1}, api.Entry{Key: "c", Page: 2}, api.Entry{Key: "e", Page: 3}))
	return m
}

// middle is the hold of page 2 of laid.
func middle() api.Hold { return api.Hold{Page: 2, Left: 1, Key: "c"} }

// head is the head of a page, which is looked up in a copy, as that is no access.
func head(m *mem.Memory, n int) api.Ref {
	x, _ := m.Copy().Head(n)
	return x
}

// now is the number of the clock, which is looked up in a copy, too.
func now(m *mem.Memory) int { return m.Copy().Now() }

// at is since when a thread is inside, and whether it is.
func at(m *mem.Memory, n int) (int, bool) {
	at, in, _ := m.Copy().At(n)
	return at, in
}

// loaded is a page, as it is now.
func loaded(m *mem.Memory, n int) (page.Page, error) {
	chain, refs, err := m.Chain(n)
	if err != nil {
		return page.Page{}, err
	}
	return page.Of(n, head(m, n), chain, refs)
}

// words are a page in a few words: its keys, or its entries, with a ! if it is gone or held.
func words(m *mem.Memory, n int) string {
	p, err := loaded(m, n)
	if err != nil {
		return err.Error()
	}
	var text strings.Builder
	for _, r := range p.Rows.Rows {
		text.WriteString(r.Key)
	}
	for _, e := range p.Inner.Entries {
		text.WriteString(e.Key + strconv.Itoa(e.Page))
	}
	if p.Rows.Gone || p.Inner.Held {
		text.WriteString("!")
	}
	return text.String()
}

// state is a memory in a few words: its pages.
func state(m *mem.Memory) string {
	var l []string
	for _, n := range m.Pages() {
		l = append(l, strconv.Itoa(n)+"="+words(m, n))
	}
	return strings.Join(l, " ")
}

// holds asks how a memory is.
func holds(t *testing.T, name string, m *mem.Memory, want string) {
	t.Helper()
	if got := state(m); got != want {
		t.Errorf("%s: the memory is %q, not %q", name, got, want)
	}
}

// records asks for the records of a page's chain.
func records(t *testing.T, name string, m *mem.Memory, n int, want ...api.Record) {
	t.Helper()
	got, _, err := m.Chain(n)
	if err != nil || !same(got, want) {
		t.Errorf("%s: page %d is %+v, %v, not %+v", name, n, got, err, want)
	}
}

// same tells whether records are the same, be an empty list nil or not.
func same(a, b []api.Record) bool {
	clean := func(l []api.Record) []api.Record {
		made := append([]api.Record{}, l...)
		for k := range made {
			made[k].Rows = append([]api.Row{}, made[k].Rows...)
			made[k].Entries = append([]api.Entry{}, made[k].Entries...)
		}
		return made
	}
	return reflect.DeepEqual(clean(a), clean(b))
}

func get(key string) api.Call           { return api.Call{Kind: api.Get, Key: key} }
func insert(key, value string) api.Call { return api.Call{Kind: api.Insert, Key: key, Value: value} }
func update(key, value string) api.Call { return api.Call{Kind: api.Update, Key: key, Value: value} }
func upsert(key, value string) api.Call { return api.Call{Kind: api.Upsert, Key: key, Value: value} }
func remove(key string) api.Call        { return api.Call{Kind: api.Delete, Key: key} }

// starts is a thread with a pending call.
func starts(t *testing.T, n int, c api.Call) *tree.Thread {
	t.Helper()
	x := tree.NewThread(n)
	begins(t, x, c)
	return x
}

// begins makes a call of a thread pending.
func begins(t *testing.T, x *tree.Thread, c api.Call) {
	t.Helper()
	if err := x.Start(c); err != nil || !x.Pending() {
		t.Fatalf("Start of %v: %v, and Pending is %v", c, err, x.Pending())
	}
}

// most is after how many steps a thread is given up.
const most = 5000

// steps lets a thread finish, and returns how many steps this took. Each of them makes one access.
func steps(t *testing.T, x *tree.Thread, m *mem.Memory) int {
	t.Helper()
	for n := range most {
		if !x.Pending() {
			return n
		}
		was := m.Count()
		if finished := x.Step(m); finished == x.Pending() {
			t.Fatalf("Step %d is %v, and Pending, too", n, finished)
		}
		if m.Count() != was+1 {
			t.Fatalf("Step %d makes %d accesses", n, m.Count()-was)
		}
	}
	t.Fatal("the thread does not finish")
	return 0
}

// some makes so many steps, after which the thread has not finished.
func some(t *testing.T, x *tree.Thread, m *mem.Memory, n int) {
	t.Helper()
	for range n {
		busy(t, "ahead of a step", x)
		if x.Step(m) {
			t.Fatal("the thread finishes early")
		}
	}
	busy(t, "after some steps", x)
}

// takes asks how many steps a thread takes.
func takes(t *testing.T, name string, x *tree.Thread, m *mem.Memory, want int) {
	t.Helper()
	if n := steps(t, x, m); n != want {
		t.Errorf("%s: %d steps, not %d", name, n, want)
	}
}

// busy asks that something is pending.
func busy(t *testing.T, name string, x *tree.Thread) {
	t.Helper()
	r, err := x.Reply()
	b, e := x.Batch()
	if !x.Pending() || r != (api.Reply{}) || err != error(api.ErrBusy) || !empty(b) || e != error(api.ErrBusy) {
		t.Errorf("%s: Pending is %v, Reply %v, %v, and Batch %v, %v", name, x.Pending(), r, err, b, e)
	}
}

// empty tells whether a batch is the zero one.
func empty(b tree.Batch) bool {
	return len(b.Rows) == 0 && b.Rest == (bkey.Span{}) && !b.Ended && b.Err == nil
}

// replies asks for the reply of a call that has finished.
func replies(t *testing.T, name string, x *tree.Thread, want api.Reply) {
	t.Helper()
	r, err := x.Reply()
	if x.Pending() || err != nil || !reflect.DeepEqual(r, want) {
		t.Errorf("%s: Pending is %v, and Reply %+v, %v, not %+v", name, x.Pending(), r, err, want)
	}
}

// does performs a call by itself, and asks for its reply.
func does(t *testing.T, x *tree.Thread, m *mem.Memory, c api.Call, value string, err error) {
	t.Helper()
	begins(t, x, c)
	steps(t, x, m)
	replies(t, tell(c), x, api.Reply{Value: value, Err: err})
}

// tell is a call in a few words.
func tell(c api.Call) string {
	return strconv.Itoa(c.Kind) + " " + c.Key + " " + c.Value
}

// in is an error as a thread replies with it: a code of a part of the memory, by way of the tree.
func in(n int, place string, slot int, c api.Code) error {
	return by(n, &api.Fault{Place: place, Slot: slot, Err: c})
}

// by is an error that came by way of the tree.
func by(n int, err error) error { return &api.Fault{Place: "tree", Slot: n, Err: err} }

// binned asks for the items of a thread's bin.
func binned(t *testing.T, name string, x *tree.Thread, want ...epoch.Item) {
	t.Helper()
	if got := x.Bin(); len(got) != len(want) || len(want) > 0 && !reflect.DeepEqual(got, want) {
		t.Errorf("%s: the bin is %v, not %v", name, got, want)
	}
}

// sweeps sweeps the bin of a thread.
func sweeps(t *testing.T, x *tree.Thread, m *mem.Memory) {
	t.Helper()
	x.Sweep()
	if !x.Pending() {
		t.Fatal("no sweep is pending")
	}
	steps(t, x, m)
}

// P14.1: Right.

func TestRight(t *testing.T) {
	long := strings.Repeat("k", 16)
	for _, c := range []struct {
		call api.Call
		want bool
	}{
		{get("a"), true}, {insert("a", "b"), true}, {update("a", "b"), true}, {upsert("a", "b"), true}, {remove("a"), true},
		{api.Call{}, false}, {api.Call{Key: "a"}, false}, {api.Call{Kind: 6, Key: "a"}, false}, {api.Call{Kind: -1, Key: "a"}, false},
		{api.Call{Kind: math.MaxInt, Key: "a"}, false}, {api.Call{Kind: math.MinInt, Key: "a"}, false},
		{get(""), false}, {insert("", "b"), false}, {update("", "b"), false}, {upsert("", "b"), false}, {remove(""), false},
		{get(long), true}, {insert(long, long), true}, {remove(long), true}, {upsert("\x00", "\xff"), true}, {update(long, ""), true},
		{get(long + "k"), false}, {insert(long+"k", ""), false}, {remove(long + "k"), false}, {get(strings.Repeat(long, 99)), false},
		{insert("a", long+"v"), false}, {update("a", long+"v"), false}, {upsert("a", long+"v"), false}, {upsert("a", strings.Repeat(long, 99)), false},
		{api.Call{Kind: api.Get, Key: "a", Value: long + "v"}, true}, {api.Call{Kind: api.Delete, Key: "a", Value: strings.Repeat(long, 99)}, true},
		{api.Call{Kind: api.Get, Value: "v"}, false}, {api.Call{Kind: 0, Key: "a", Value: long + "v"}, false},
	} {
		if got := tree.Right(c.call); got != c.want {
			t.Errorf("Right of %v is %v", c.call, got)
		}
		x := tree.NewThread(0)
		err := x.Start(c.call)
		if c.want && err != nil || !c.want && err != error(api.ErrArg) || x.Pending() != c.want {
			t.Errorf("Start of %v: %v, and Pending is %v", c.call, err, x.Pending())
		}
	}
}

// P14.1: threads.

func TestAThreadWithoutCalls(t *testing.T) {
	m := laid(t)
	was := m.Copy()
	for _, n := range []int{0, 2, 3, -1, 64, math.MaxInt, math.MinInt} {
		x := tree.NewThread(n)
		if x == nil || x.Pending() || !x.Step(m) || !x.Step(nil) {
			t.Errorf("thread %d is pending", n)
		}
		if r, err := x.Reply(); r != (api.Reply{}) || err != error(api.ErrState) {
			t.Errorf("Reply is %v, %v", r, err)
		}
		if b, err := x.Batch(); !empty(b) || err != error(api.ErrState) {
			t.Errorf("Batch is %v, %v", b, err)
		}
		binned(t, "a new thread", x)
	}
	if !reflect.DeepEqual(m, was) {
		t.Error("a step without a call changes the memory")
	}
}

func TestNoThread(t *testing.T) {
	var x *tree.Thread
	m := laid(t)
	was := m.Copy()
	if x.Pending() || !x.Step(m) || !x.Step(nil) {
		t.Error("nil is pending")
	}
	for _, c := range []api.Call{get("a"), {}} {
		if err := x.Start(c); err != error(api.ErrArg) {
			t.Error("Start:", err)
		}
	}
	for _, s := range []bkey.Span{{Unbounded: true}, {}} {
		if err := x.StartBatch(s, true); err != error(api.ErrArg) {
			t.Error("StartBatch:", err)
		}
	}
	if r, err := x.Reply(); r != (api.Reply{}) || err != error(api.ErrArg) {
		t.Errorf("Reply is %v, %v", r, err)
	}
	if b, err := x.Batch(); !empty(b) || err != error(api.ErrArg) {
		t.Errorf("Batch is %v, %v", b, err)
	}
	x.Sweep()
	binned(t, "nil", x)
	if !reflect.DeepEqual(m, was) {
		t.Error("nil changes the memory")
	}
}

func TestOneThingAtATime(t *testing.T) {
	m := laid(t)
	span := bkey.Span{Unbounded: true}
	for k, pending := range []func(*tree.Thread){
		func(x *tree.Thread) { begins(t, x, upsert("c", "new")) },
		func(x *tree.Thread) { x.StartBatch(span, false) },
		func(x *tree.Thread) { x.Sweep() },
	} {
		x, alone := tree.NewThread(0), tree.NewThread(0)
		pending(x)
		pending(alone)
		c := m.Copy()
		for x.Pending() {
			busy(t, "pending", x)
			if err := x.Start(get("a")); err != error(api.ErrBusy) {
				t.Error("Start:", err)
			}
			if err := x.Start(api.Call{}); err != error(api.ErrArg) {
				t.Error("Start of none:", err)
			}
			if err := x.StartBatch(span, true); err != error(api.ErrBusy) {
				t.Error("StartBatch:", err)
			}
			if err := x.StartBatch(bkey.Span{}, true); err != error(api.ErrArg) {
				t.Error("StartBatch of none:", err)
			}
			x.Sweep()
			if is, was := x.Step(m), alone.Step(c); is != was || !reflect.DeepEqual(m, c) {
				t.Fatalf("%d: what cannot be started changes what is pending", k)
			}
		}
		r, err := x.Reply()
		if s, e := alone.Reply(); r != s || err != e {
			t.Errorf("%d: %v, %v, not %v, %v", k, r, err, s, e)
		}
	}
}

func TestTheLastReplyAndTheLastBatchStay(t *testing.T) {
	m := laid(t)
	x := tree.NewThread(1)
	does(t, x, m, get("c"), "c", nil)
	if _, err := x.Batch(); err != error(api.ErrState) {
		t.Error("a batch without any:", err)
	}
	x.StartBatch(bkey.Span{Low: "d", Unbounded: true}, false)
	steps(t, x, m)
	replies(t, "after a batch", x, api.Reply{Value: "c"})
	batch, err := x.Batch()
	if err != nil || !reflect.DeepEqual(batch.Rows, list("d")) {
		t.Errorf("%+v, %v", batch, err)
	}
	sweeps(t, x, m)
	replies(t, "after a sweep", x, api.Reply{Value: "c"})
	x.Start(api.Call{})
	x.StartBatch(bkey.Span{}, false)
	replies(t, "after errors", x, api.Reply{Value: "c"})
	does(t, x, m, get("x"), "", api.ErrNone)
	if again, err := x.Batch(); err != nil || !reflect.DeepEqual(again, batch) {
		t.Errorf("%+v, %v, not %+v", again, err, batch)
	}
	x.StartBatch(bkey.Span{Low: "e", Unbounded: true}, false)
	steps(t, x, m)
	if last, err := x.Batch(); err != nil || !reflect.DeepEqual(last.Rows, list("ef")) {
		t.Errorf("%+v, %v", last, err)
	}
	replies(t, "after another batch", x, api.Reply{Err: api.ErrNone})
	was := m.Count()
	if !x.Step(m) || !x.Step(nil) || m.Count() != was {
		t.Error("a step of a thread that has finished")
	}
}

func TestABatchOrASweepIsNoCall(t *testing.T) {
	m := laid(t)
	x := tree.NewThread(1)
	sweeps(t, x, m)
	if _, err := x.Reply(); err != error(api.ErrState) {
		t.Error("after a sweep:", err)
	}
	if _, err := x.Batch(); err != error(api.ErrState) {
		t.Error("after a sweep:", err)
	}
	x.StartBatch(bkey.Span{Unbounded: true}, false)
	steps(t, x, m)
	if _, err := x.Reply(); err != error(api.ErrState) {
		t.Error("after a batch:", err)
	}
}

// Example 1.

func TestInsertTakesSevenAccesses(t *testing.T) {
	m := memory(t, limits())
	x := starts(t, 1, insert("a", "1"))
	root := head(m, 0)
	l := []struct {
		now    int
		inside bool
		live   int
		rows   string
	}{
		{2, false, 1, ""}, // Bump
		{2, true, 1, ""},  // Enter
		{2, true, 1, ""},  // the head of page 0
		{2, true, 1, ""},  // its record
		{2, true, 2, ""},  // Alloc
		{2, true, 2, "a"}, // Swap
		{2, false, 2, "a"},
	}
	for k, c := range l {
		busy(t, "step by step", x)
		if finished := x.Step(m); finished != (k == len(l)-1) || m.Count() != k+1 {
			t.Fatalf("Step %d is %v, after %d accesses", k, finished, m.Count())
		}
		if n, inside := at(m, 1); now(m) != c.now || inside != c.inside || inside && n != 2 || len(m.Live()) != c.live || words(m, 0) != c.rows {
			t.Errorf("step %d: at %d, inside is %v, %d, %d slots, %q", k, now(m), inside, n, len(m.Live()), words(m, 0))
		}
	}
	replies(t, "example 1", x, api.Reply{})
	records(t, "example 1", m, 0, api.Record{Kind: api.LeafPut, Key: "a", Value: "1", Next: root}, base("", "", 0, ""))
	does(t, x, m, get("a"), "1", nil)
}

// A thread that was copied as a value goes on by itself.

func TestCopiesGoOnByThemselves(t *testing.T) {
	for _, m := range []*mem.Memory{laid(t), crowded(t), heldLeaf(t), longChain(t)} {
		x := starts(t, 0, upsert("cc", "new"))
		for x.Pending() {
			y, c := *x, m.Copy()
			z, d := *x, m.Copy()
			steps(t, &y, c)
			x.Step(m)
			write(t, d, 2, api.Record{Kind: 99})
			for range 30 {
				z.Step(d)
			}
			w := y
			if !w.Step(c) || !y.Step(c) || w.Pending() {
				t.Error("a copy that had finished goes on")
			}
			if got, err := y.Reply(); got != (api.Reply{}) || err != nil {
				t.Fatalf("the reply of a copy is %v, %v", got, err)
			}
			if l, err := tree.Scan(c); err != nil || !has(l, "cc", "new") {
				t.Fatalf("%v, %v of a copy", l, err)
			}
		}
		replies(t, "the original", x, api.Reply{})
		if l, err := tree.Scan(m); err != nil || !has(l, "cc", "new") {
			t.Fatalf("%v, %v", l, err)
		}
		if len(x.Bin()) > 0 {
			y := *x
			sweeps(t, &y, m.Copy())
			if len(x.Bin()) == 0 || len(y.Bin()) != 0 {
				t.Error("the bin is swept by a copy:", x.Bin(), y.Bin())
			}
		}
	}
}

// has tells whether there is a row.
func has(l []api.Row, key, value string) bool {
	for _, r := range l {
		if r == (api.Row{Key: key, Value: value}) {
			return true
		}
	}
	return false
}

// crowded is laid with too many rows in page 2.
func crowded(t *testing.T) *mem.Memory {
	m := laid(t)
	replace(t, m, 2, api.Record{Kind: api.LeafBase, Low: "c", High: "e", Right: 3, Rows: []api.Row{{Key: "c"}, {Key: "c1"}, {Key: "c2"}, {Key: "c3"}, {Key: "d"}}})
	return m
}

// heldLeaf is laid with a hold.
func heldLeaf(t *testing.T) *mem.Memory {
	m := laid(t)
	write(t, m, 0, api.Record{Kind: api.InnerHold, Hold: middle()})
	return m
}

// longChain is laid with too many records in page 2.
func longChain(t *testing.T) *mem.Memory {
	m := laid(t)
	for k := range 4 {
		write(t, m, 2, api.Record{Kind: api.LeafPut, Key: "c", Value: strconv.Itoa(k)})
	}
	return m
}

// Results are new memory.

func TestResultsAreNotShared(t *testing.T) {
	m := laid(t)
	x := tree.NewThread(0)
	x.StartBatch(bkey.Span{Unbounded: true}, false)
	steps(t, x, m)
	a, _ := x.Batch()
	a.Rows[0].Key = "changed"
	a.Rows = append(a.Rows[:1], api.Row{Key: "changed"})
	if b, _ := x.Batch(); !reflect.DeepEqual(b.Rows, list("ab")) {
		t.Error("two batches share their rows:", b.Rows)
	}
	holds(t, "a batch that was changed", m, "0=1c2e3 1=ab 2=cd 3=ef")

	l, _ := tree.Scan(m)
	l[0].Key, l[2].Value = "changed", "changed"
	holds(t, "rows that were changed", m, "0=1c2e3 1=ab 2=cd 3=ef")
	if again, _ := tree.Scan(m); !reflect.DeepEqual(again, list("abcdef")) {
		t.Error("two scans share their rows:", again)
	}

	m = longChain(t)
	does(t, x, m, get("c"), "3", nil)
	begins(t, x, upsert("d", "new"))
	for len(x.Bin()) == 0 {
		x.Step(m)
	}
	bin := x.Bin()
	want := bin[0]
	bin[0] = epoch.Item{}
	binned(t, "a bin that was changed", x, want)
}

// keys are the rows of a leaf.
func keys(t *testing.T, m *mem.Memory, n int) []api.Row {
	t.Helper()
	chain, _, err := m.Chain(n)
	v, e := leaf.Fold(chain)
	if err != nil || e != nil {
		t.Fatal(err, e)
	}
	return v.Rows
}
