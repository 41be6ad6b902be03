package txn_test

import (
	"reflect"
	"strconv"
	"testing"

	"rowlock/api"
	"rowlock/mem"
	"rowlock/tree"
	"rowlock/txn"
)

// P17.4: Flush.

// flushing is a client that has begun to flush, and has made so many steps.
func flushing(t *testing.T, s txn.Store, n, steps int) *txn.Client {
	t.Helper()
	c := txn.NewClient(n)
	if err := c.Flush(); err != nil || !c.Pending() || c.Inside() {
		t.Fatal(err, c.Pending(), c.Inside())
	}
	for range steps {
		if c.Step(s) {
			t.Fatal("a flush is over early")
		}
	}
	return c
}

// free asks whether nobody holds the token.
func free(s txn.Store) bool {
	ok, err := copied(s).Table.Grab(0)
	return ok && err == nil
}

func TestFlushAccessByAccess(t *testing.T) {
	s := filled(t, 1, "b=1 c=1", "a=2 -b c=2 -d", "a=3")
	want := copied(s)
	c := flushing(t, s, 1, 0)
	step := func(name string, do func()) {
		t.Helper()
		do()
		if finished := c.Step(s); finished != (name == "Yield") || finished == c.Pending() || !reflect.DeepEqual(s, want) {
			t.Fatalf("%s is another access, or finishes early or late", name)
		}
	}
	nothing := func() {}
	step("Grab", func() { want.Table.Grab(1) })
	step("Base", nothing)
	step("Last", nothing)
	for range 3 {
		step("Marked", nothing)
	}
	step("At", nothing)
	x := tree.NewThread(1)
	for _, call := range []api.Call{
		{Kind: api.Upsert, Key: "a", Value: "2"}, {Kind: api.Delete, Key: "b"}, {Kind: api.Upsert, Key: "c", Value: "2"}, {Kind: api.Delete, Key: "d"},
	} {
		for x.Start(call); x.Pending(); {
			step(call.Key, func() { x.Step(want.Mem) })
		}
	}
	step("Advance", func() { want.Table.Advance(1) })
	step("Trim", func() { want.Table.Trim(2) })
	step("Yield", func() { want.Table.Yield(1) })
	r, err := c.Result()
	is(t, "Flush", r, txn.Result{Number: 2})
	l, e := tree.Scan(s.Mem)
	if told(l) != "a=2 c=2" || err != nil || e != nil || s.Table.Count() != 1 || c.Inside() {
		t.Error(told(l), err, e, s.Table.Count())
	}
	idle(t, s, c)
}

// As many flushes as commits put all of them into the tree, one by one.
func TestFlushes(t *testing.T) {
	s := filled(t, 0, "a=1 b=1", "-a c=2", "a=3", "-b -c")
	c := txn.NewClient(0)
	for n, want := range []string{"a=1 b=1", "b=1 c=2", "a=3 b=1 c=2", "a=3"} {
		is(t, "Flush", does(t, s, c, c.Flush()), txn.Result{Number: n + 1})
		if l, err := tree.Scan(s.Mem); told(l) != want || err != nil || s.Table.Base() != n+1 || s.Table.Count() != 3-n {
			t.Error(told(l), err, s.Table.Base(), s.Table.Count())
		}
	}
	is(t, "nothing is left", does(t, s, c, c.Flush()), txn.Result{})
}

// nothingFlushed asks that a flush ends without having put anything into the tree.
func nothingFlushed(t *testing.T, name string, s txn.Store, c *txn.Client, steps int, want txn.Result) {
	t.Helper()
	was, held := copied(s), !free(s)
	n := 0
	for k := c.Flush(); c.Pending(); n++ {
		if k != nil {
			t.Fatal(k)
		}
		c.Step(s)
	}
	r, err := c.Result()
	is(t, name, r, want)
	if n != steps || err != nil || c.Inside() {
		t.Errorf("%s: %d steps, not %d, %v", name, n, steps, err)
	}
	if !reflect.DeepEqual(s, was) || free(s) == held {
		t.Errorf("%s: something is changed, or the token is not given back", name)
	}
}

func TestFlushOfNothing(t *testing.T) {
	c := txn.NewClient(1)
	nothingFlushed(t, "no commits", store(t, limits()), c, 4, txn.Result{})
	nothingFlushed(t, "all is in the tree", filled(t, 2, "a=1", "b=2"), c, 4, txn.Result{})
	s := filled(t, 1, "a=1")
	s.Table.Mark(0, 0)
	nothingFlushed(t, "all is in the tree, and there are marks", s, c, 4, txn.Result{})
}

func TestFlushWithoutTheToken(t *testing.T) {
	for holder := range 3 {
		s := filled(t, 0, "a=1")
		s.Table.Grab(holder)
		for n := range 3 {
			nothingFlushed(t, "somebody has the token", s, txn.NewClient(n), 1, txn.Result{})
		}
		s.Table.Yield(holder)
		flush(t, s, 1)
	}
	for _, n := range []int{-1, 3, 64} {
		nothingFlushed(t, "no such thread", filled(t, 0, "a=1"), txn.NewClient(n), 1, txn.Result{Err: api.ErrArg})
	}
}

func TestFlushBelowMarks(t *testing.T) {
	for _, c := range []struct {
		marks [3]int
		asked int // how many threads are, before one of them is in the way; 0 if none is
	}{
		{[3]int{-1, -1, -1}, 0},
		{[3]int{1, -1, -1}, 1}, // just the base
		{[3]int{0, -1, -1}, 1},
		{[3]int{-1, 1, -1}, 2},
		{[3]int{-1, -1, 1}, 3},
		{[3]int{-1, -1, 0}, 3},
		{[3]int{2, 2, 2}, 0},
		{[3]int{2, -1, 3}, 0},
		{[3]int{3, 2, 1}, 3},
		{[3]int{1, 0, 1}, 1},
		{[3]int{2, 0, 1}, 2},
		{[3]int{1 << 40, 1 << 40, 1 << 40}, 0},
		{[3]int{1 << 40, -1, 1}, 3},
	} {
		for n := range 3 {
			s := filled(t, 1, "a=1", "b=2", "c=3")
			for thread, mark := range c.marks {
				s.Table.Mark(thread, mark)
			}
			x := txn.NewClient(n)
			if c.asked > 0 {
				nothingFlushed(t, "a mark", s, x, 3+c.asked+1, txn.Result{})
				continue
			}
			is(t, "marks beyond", does(t, s, x, x.Flush()), txn.Result{Number: 2})
			marked(t, s, c.marks[0], c.marks[1], c.marks[2])
		}
	}
}

// All threads that there are are asked, also in a store that has but one, or as many as may be.
func TestFlushAsksAllThreads(t *testing.T) {
	for _, threads := range []int{1, 2, 64} {
		l := limits()
		l.Threads = threads
		for n := range threads {
			s := store(t, l)
			commit(t, s, "a=1")
			s.Table.Mark(n, 0)
			nothingFlushed(t, "a mark", s, txn.NewClient(0), 3+n+1+1, txn.Result{})
		}
		s := store(t, l)
		commit(t, s, "a=1")
		c := txn.NewClient(threads - 1)
		is(t, "no marks", does(t, s, c, c.Flush()), txn.Result{Number: 1})
	}
}

// A transaction that begins while a flush is pending does not stop it, and sees what it puts.
func TestBeginsWhileAFlushIsPending(t *testing.T) {
	for at := range 20 {
		for between := range 4 {
			s := filled(t, 0, "a=1", "a=2")
			x, y := txn.NewClient(0), flushing(t, s, 1, 0)
			for range at {
				y.Step(s)
			}
			x.Begin(true)
			for range between {
				x.Step(s)
			}
			does(t, s, y, nil)
			does(t, s, x, nil)
			is(t, "Get", does(t, s, x, x.Get("a")), there("2"))
			for range 3 {
				does(t, s, y, y.Flush())
			}
			commit(t, s, "a=3")
			for range 3 {
				does(t, s, y, y.Flush())
			}
			is(t, "Get", does(t, s, x, x.Get("a")), there("2"))
			if s.Table.Base() > 2 {
				t.Error("the base is beyond a snapshot:", s.Table.Base())
			}
			does(t, s, x, x.Commit())
			does(t, s, y, y.Flush())
			does(t, s, y, y.Flush())
			if s.Table.Base() != 3 {
				t.Error("the base is", s.Table.Base())
			}
		}
	}
}

// What the tree refuses ends a flush. The token is given back, and the commit stays to be flushed.
func TestFlushWithAnError(t *testing.T) {
	l := limits()
	l.Slots, l.Pages = 4, 3
	s := store(t, l)
	text := ""
	for k := range 10 {
		text += string([]byte{byte('a' + k)}) + "=1 "
	}
	commit(t, s, text)
	y := copied(s)
	c, x := txn.NewClient(1), tree.NewThread(1)
	calls := 0
	var want api.Reply
	for k := 0; want.Err == nil; k++ {
		x.Start(api.Call{Kind: api.Upsert, Key: string([]byte{byte('a' + k)}), Value: "1"})
		for x.Pending() {
			x.Step(y.Mem)
			calls++
		}
		want, _ = x.Reply()
	}
	c.Flush()
	n, r := steps(t, s, c)
	is(t, "no space", r, txn.Result{Err: want.Err})
	if n != 3+3+1+calls+1 || code(r.Err) != api.ErrFull || !free(s) || s.Table.Base() != 0 || s.Table.Count() != 1 {
		t.Error(n, r, free(s), s.Table.Base(), s.Table.Count())
	}
	if !reflect.DeepEqual(s.Mem, y.Mem) {
		t.Error("the flush goes on after an error")
	}
	for i := range 10 {
		d := begun(t, s, 0, true)
		is(t, "Get", does(t, s, d, d.Get(string([]byte{byte('a' + i)}))), there("1"))
		does(t, s, d, d.Abort())
	}

	// With more space, the same client makes it.
	m, err := mem.New(limits())
	if err != nil {
		t.Fatal(err)
	}
	s.Mem = m
	is(t, "space", does(t, s, c, c.Flush()), txn.Result{Number: 1})
}

func TestFlushAtTheEndOfTheClock(t *testing.T) {
	s := low(t, 40)
	commit(t, s, "a=1", "-a b=2")
	flush(t, s, 1)
	exhaust(s)
	c := txn.NewClient(1)
	c.Flush()
	n, r := steps(t, s, c)
	is(t, "a Delete", r, txn.Result{Err: in(1, "clock", 0, api.ErrExhausted)})
	if n != 3+3+1+1+1 || !free(s) || s.Table.Base() != 1 {
		t.Error(n, free(s), s.Table.Base())
	}
}

// What was not advanced by the flush is not its own.
func TestFlushThatDoesNotAdvance(t *testing.T) {
	for _, c := range []struct {
		last int
		want txn.Result
	}{{1, txn.Result{Err: api.ErrState}}, {2, txn.Result{}}} {
		s := filled(t, 0, []string{"a=1", "b=2"}[:c.last]...)
		x := flushing(t, s, 1, 3+3+1)
		s.Table.Advance(0)
		_, r := steps(t, s, x)
		is(t, strconv.Itoa(c.last), r, c.want)
		if !free(s) || s.Table.Base() != 1 || s.Table.Count() != c.last {
			t.Error(free(s), s.Table.Base(), s.Table.Count())
		}
	}
}

func TestFlushOfWhatIsDropped(t *testing.T) {
	s := filled(t, 0, "a=1")
	x := flushing(t, s, 1, 3+3)
	s.Table.Advance(0)
	s.Table.Trim(1)
	n, r := steps(t, s, x)
	is(t, "dropped", r, txn.Result{Err: api.ErrNone})
	if n != 2 || !free(s) {
		t.Error(n, free(s))
	}
}
