package txn_test

import (
	"reflect"
	"slices"
	"strconv"
	"testing"

	"rowlock/api"
	"rowlock/bkey"
	"rowlock/commits"
	"rowlock/tree"
	"rowlock/txn"
)

// P17.3: Commit.

// over asks that there is no transaction any more.
func over(t *testing.T, name string, s txn.Store, c *txn.Client, n int) {
	t.Helper()
	if mark, _ := s.Table.Marked(n); c.Inside() || mark != -1 {
		t.Errorf("%s: Inside is %v, and the mark %d", name, c.Inside(), mark)
	}
	if err := c.Get("a"); err != error(api.ErrState) {
		t.Errorf("%s: Get: %v", name, err)
	}
	idle(t, s, c)
}

// Without writes there is nothing that could clash.
func TestCommitOfNothing(t *testing.T) {
	for _, reads := range []bool{false, true} {
		s := filled(t, 1, "a=1", "b=2")
		c := begun(t, s, 1, reads)
		does(t, s, c, c.Get("a"))
		does(t, s, c, c.Range(span("", ""), 0, false))
		commit(t, s, "a=2 c=3")
		marked(t, s, -1, 2, -1)
		want := copied(s)
		want.Table.Mark(1, -1)
		if err := c.Commit(); err != nil || !c.Pending() || !c.Inside() {
			t.Fatal(err, c.Pending(), c.Inside())
		}
		n, r := steps(t, s, c)
		is(t, "Commit", r, txn.Result{Number: 2})
		if n != 1 || !reflect.DeepEqual(s, want) {
			t.Error("not a single access that takes the mark away:", n)
		}
		over(t, "nothing written", s, c, 1)
	}
}

func TestCommitAccessByAccess(t *testing.T) {
	s := filled(t, 1, "a=1", "b=2")
	c := begun(t, s, 1, false)
	does(t, s, c, c.Get("a"))
	records(t, c, "c=1 b=3 -a")
	commit(t, s, "d=4", "e=5")
	if err := c.Commit(); err != nil || !c.Pending() || !c.Inside() {
		t.Fatal(err, c.Pending(), c.Inside())
	}
	was := copied(s)
	for range 3 { // Last, At 3, At 4
		if c.Step(s) || !reflect.DeepEqual(s, was) {
			t.Fatal("a commit changes something early")
		}
	}
	if c.Step(s) || s.Table.Last() != 5 || !c.Inside() {
		t.Error("no Append after Last and At")
	}
	marked(t, s, -1, 2, -1)
	commit(t, s, "z=6") // too late to count
	if !c.Step(s) || c.Pending() {
		t.Error("not finished after Mark")
	}
	r, err := c.Result()
	is(t, "Commit", r, txn.Result{Number: 5})
	if l, e := s.Table.At(5); !slices.Equal(l, writes("-a b=3 c=1")) || e != nil || err != nil {
		t.Error(l, e, err)
	}
	if s.Mem.Count() != was.Mem.Count() {
		t.Error("a commit makes accesses of the memory")
	}
	over(t, "Commit", s, c, 1)
}

func TestConflicts(t *testing.T) {
	get := func(key string) func(*txn.Client) error {
		return func(c *txn.Client) error { return c.Get(key) }
	}
	ranged := func(low, high string) func(*txn.Client) error {
		return func(c *txn.Client) error { return c.Range(span(low, high), 1, true) }
	}
	reads := func(l ...func(*txn.Client) error) []func(*txn.Client) error { return l }
	for _, c := range []struct {
		name     string
		reads    []func(*txn.Client) error
		others   []string
		conflict bool
	}{
		{"nothing read", nil, []string{"a=2 w=2"}, false},
		{"nobody else", reads(get("a")), nil, false},
		{"what was read", reads(get("a")), []string{"a=2"}, true},
		{"what was read, with the same value", reads(get("a")), []string{"a=1"}, true},
		{"what was read, and is gone", reads(get("a")), []string{"-a"}, true},
		{"another key", reads(get("a")), []string{"b=2"}, false},
		{"a key that begins alike", reads(get("ab")), []string{"a=2 aba=2"}, false},
		{"what was read, and was not there", reads(get("x")), []string{"x=2"}, true},
		{"what was read, and is still not there", reads(get("x")), []string{"-x"}, true},
		{"one of several keys", reads(get("a"), get("b"), get("c")), []string{"b=2"}, true},
		{"the first one of several keys", reads(get("a"), get("b"), get("c")), []string{"a=2"}, true},
		{"the last one of several keys", reads(get("a"), get("b"), get("c")), []string{"c=2"}, true},
		{"a key that was read twice", reads(get("a"), get("b"), get("a")), []string{"b=2"}, true},
		{"among several writes", reads(get("b")), []string{"a=2 b=2 c=2"}, true},
		{"the last one of several commits", reads(get("a")), []string{"b=2", "c=2", "a=2"}, true},
		{"the first one of several commits", reads(get("a")), []string{"a=2", "b=2", "c=2"}, true},
		{"several others", reads(get("a")), []string{"b=2", "c=2", "w=2"}, false},
		{"in a span", reads(ranged("b", "d")), []string{"c=2"}, true},
		{"at the low end of a span", reads(ranged("b", "d")), []string{"b=2"}, true},
		{"at the high end of a span", reads(ranged("b", "d")), []string{"d=2"}, false},
		{"just before the high end of a span", reads(ranged("b", "d")), []string{"czzz=2"}, true},
		{"before a span", reads(ranged("b", "d")), []string{"azz=2"}, false},
		{"a new key in a span", reads(ranged("b", "d")), []string{"bb=2"}, true},
		{"gone in a span", reads(ranged("b", "d")), []string{"-c"}, true},
		{"gone in a span, where it never was", reads(ranged("b", "d")), []string{"-cc"}, true},
		{"in an unbounded span", reads(ranged("b", "")), []string{"zz=2"}, true},
		{"before an unbounded span", reads(ranged("b", "")), []string{"a=2"}, false},
		{"in all that there is", reads(ranged("", "")), []string{"A=2"}, true},
		{"beyond the limit, but in the span", reads(ranged("a", "d")), []string{"a=2"}, true},
		{"in the second span", reads(ranged("a", "b"), ranged("c", "d")), []string{"c=2"}, true},
		{"in the first span", reads(ranged("a", "b"), ranged("c", "d")), []string{"a=2"}, true},
		{"between two spans", reads(ranged("a", "b"), ranged("c", "d")), []string{"b=2"}, false},
		{"a span and a key", reads(ranged("a", "b"), get("c")), []string{"c=2"}, true},
		{"a key and a span", reads(get("c"), ranged("a", "b")), []string{"a=2"}, true},
		{"neither the key nor in the span", reads(get("c"), ranged("a", "b")), []string{"b=2 d=2"}, false},
		{"what it wrote itself", reads(get("w")), []string{"w=2"}, false},
		{"what it dropped itself", reads(get("v")), []string{"v=2"}, false},
		{"what it wrote itself, in a span", reads(ranged("w", "x")), []string{"w=2"}, true},
	} {
		s := filled(t, 1, "a=1 b=1", "c=1 d=1")
		x := begun(t, s, 1, false)
		records(t, x, "w=1 -v")
		for _, f := range c.reads {
			if r := does(t, s, x, f(x)); r.Err != nil {
				t.Fatal(r.Err)
			}
		}
		commit(t, s, c.others...)
		want := txn.Result{Number: 3 + len(c.others)}
		if c.conflict {
			want = txn.Result{Err: api.ErrConflict}
		}
		was := copied(s)
		is(t, c.name, does(t, s, x, x.Commit()), want)
		over(t, c.name, s, x, 1)
		if was.Table.Mark(1, -1); c.conflict && !reflect.DeepEqual(s, was) {
			t.Errorf("%s: what clashes changes something", c.name)
		}
	}
}

// What is written after it was read was read all the same.
func TestReadAndThenWritten(t *testing.T) {
	s := filled(t, 0, "a=1")
	x := begun(t, s, 0, false)
	does(t, s, x, x.Get("a"))
	records(t, x, "a=2")
	does(t, s, x, x.Get("a"))
	commit(t, s, "a=3")
	is(t, "Commit", does(t, s, x, x.Commit()), txn.Result{Err: api.ErrConflict})
}

// A read that ends with an error counts, too.
func TestReadsWithErrors(t *testing.T) {
	for _, read := range []func(x *txn.Client) error{
		func(x *txn.Client) error { return x.Get("a") },
		func(x *txn.Client) error { return x.Range(span("a", "b"), 0, false) },
	} {
		s := low(t, 40)
		x := begun(t, s, 0, false)
		exhaust(s)
		if r := does(t, s, x, read(x)); code(r.Err) != api.ErrExhausted {
			t.Fatal(r)
		}
		commit(t, s, "a=1")
		records(t, x, "b=1")
		is(t, "Commit", does(t, s, x, x.Commit()), txn.Result{Err: api.ErrConflict})
	}
}

// A refused read does not count.
func TestReadsThatAreRefused(t *testing.T) {
	s := filled(t, 0, "a=1")
	x := begun(t, s, 0, false)
	for _, err := range []error{x.Range(bkey.Span{High: "b", Unbounded: true}, 0, false), x.Range(span(text(17), ""), 0, false), x.Get(text(17))} {
		if err != error(api.ErrArg) {
			t.Error(err)
		}
	}
	commit(t, s, "a=2 z=2")
	records(t, x, "b=1")
	is(t, "Commit", does(t, s, x, x.Commit()), txn.Result{Number: 3})
}

// What a transaction read and wrote is forgotten with it.
func TestTransactionsAreIndependent(t *testing.T) {
	for k, end := range []func(*txn.Client) error{(*txn.Client).Commit, (*txn.Client).Abort} {
		s := filled(t, 0, "a=1")
		x := begun(t, s, 0, false)
		does(t, s, x, x.Get("a"))
		does(t, s, x, x.Range(span("b", "c"), 0, false))
		records(t, x, "d=1 -e")
		does(t, s, x, end(x))
		last := 2 - k
		if s.Table.Last() != last {
			t.Error("the last commit is", s.Table.Last())
		}
		is(t, "Begin", does(t, s, x, x.Begin(false)), txn.Result{Number: last})
		if k == 1 {
			is(t, "what was aborted", does(t, s, x, x.Get("d")), txn.Result{})
		}
		commit(t, s, "a=2 b=2 d=2")
		if k == 0 {
			records(t, x, "f=2")
			is(t, "Commit", does(t, s, x, x.Commit()), txn.Result{Number: 4})
			l, err := s.Table.At(4)
			if !slices.Equal(l, writes("f=2")) || err != nil {
				t.Error(l, err)
			}
			continue
		}
		is(t, "Commit of nothing", does(t, s, x, x.Commit()), txn.Result{Number: 1})
	}
}

// If others are faster, only what they committed since is looked at.
func TestCommitGoesOn(t *testing.T) {
	for _, c := range []struct {
		name   string
		at     int // after how many accesses others commit
		others []string
		steps  int
		want   txn.Result
	}{
		{"ahead of Last", 0, []string{"b=2", "b=3"}, 1 + 3 + 2, txn.Result{Number: 5}},
		{"after Last", 1, []string{"b=2", "b=3"}, 1 + 1 + 1 + 1 + 2 + 2, txn.Result{Number: 5}},
		{"ahead of Append", 2, []string{"b=2", "b=3"}, 1 + 1 + 1 + 1 + 2 + 2, txn.Result{Number: 5}},
		{"after Append", 3, []string{"a=2"}, 4, txn.Result{Number: 3}},
		{"a clash ahead of Last", 0, []string{"a=2", "b=3"}, 1 + 2 + 1, txn.Result{Err: api.ErrConflict}},
		{"a clash after Last", 1, []string{"a=2", "b=3"}, 1 + 1 + 1 + 1 + 1 + 1, txn.Result{Err: api.ErrConflict}},
		{"a clash ahead of Append", 2, []string{"b=2", "a=3"}, 1 + 1 + 1 + 1 + 2 + 1, txn.Result{Err: api.ErrConflict}},
	} {
		s := filled(t, 0, "a=1")
		x := begun(t, s, 1, false)
		does(t, s, x, x.Get("a"))
		records(t, x, "w=1")
		commit(t, s, "b=1")
		x.Commit()
		for range c.at {
			x.Step(s)
		}
		commit(t, s, c.others...)
		n, r := steps(t, s, x)
		is(t, c.name, r, c.want)
		if n+c.at != c.steps {
			t.Errorf("%s: %d steps, not %d", c.name, n+c.at, c.steps)
		}
		over(t, c.name, s, x, 1)
	}
}

// Somebody else is faster time and again, until he is not.
func TestCommitGoesOnManyTimes(t *testing.T) {
	s := filled(t, 0, "a=1")
	x := begun(t, s, 1, false)
	does(t, s, x, x.Get("a"))
	records(t, x, "w=1")
	x.Commit()
	for k := range 100 {
		commit(t, s, "b="+strconv.Itoa(k))
		if x.Step(s) {
			t.Fatal("a commit of what is not held against all that was committed before")
		}
	}
	_, r := steps(t, s, x)
	if r.Err != nil || r.Number != 102 || s.Table.Last() != 102 {
		t.Error(r, s.Table.Last())
	}
	over(t, "many times", s, x, 1)
}

func TestCommitAtTheEndOfTheCounter(t *testing.T) {
	s := low(t, 8)
	for k := range 7 {
		commit(t, s, "a="+strconv.Itoa(k))
	}
	x, y := begun(t, s, 0, false), begun(t, s, 1, false)
	records(t, x, "x=1")
	records(t, y, "y=1")
	is(t, "the last one", does(t, s, x, x.Commit()), txn.Result{Number: 8})
	y.Commit()
	n, r := steps(t, s, y)
	is(t, "one too many", r, txn.Result{Err: api.ErrExhausted})
	if n != 4 || s.Table.Last() != 8 {
		t.Error(n, s.Table.Last())
	}
	over(t, "one too many", s, y, 1)
	x = begun(t, s, 0, false)
	is(t, "a read", does(t, s, x, x.Get("x")), there("1"))
	is(t, "no writes", does(t, s, x, x.Commit()), txn.Result{Number: 8})
}

// Commits after a snapshot are dropped only by somebody who takes the mark away. What cannot be compared is an error.
func TestCommitWithoutWhatIsToBeCompared(t *testing.T) {
	s := filled(t, 0, "a=1")
	x := begun(t, s, 1, false)
	does(t, s, x, x.Get("a"))
	records(t, x, "w=1")
	commit(t, s, "a=2")
	s.Table.Mark(1, -1)
	flush(t, s, 2)
	x.Commit()
	n, r := steps(t, s, x)
	is(t, "dropped", r, txn.Result{Err: api.ErrNone})
	if n != 3 || s.Table.Last() != 2 {
		t.Error(n, s.Table.Last())
	}
	over(t, "dropped", s, x, 1)
}

// P17.3: Abort.

func TestAbort(t *testing.T) {
	for _, reads := range []bool{false, true} {
		s := filled(t, 1, "a=1", "b=2")
		c := begun(t, s, 1, reads)
		does(t, s, c, c.Range(span("", ""), 0, false))
		if !reads {
			records(t, c, "a=3 -b c=3")
		}
		commit(t, s, "a=2")
		want := copied(s)
		want.Table.Mark(1, -1)
		if err := c.Abort(); err != nil || !c.Pending() || !c.Inside() {
			t.Fatal(err, c.Pending(), c.Inside())
		}
		n, r := steps(t, s, c)
		is(t, "Abort", r, txn.Result{})
		if n != 1 || !reflect.DeepEqual(s, want) {
			t.Error("not a single access that takes the mark away:", n)
		}
		over(t, "Abort", s, c, 1)
	}
}

// P17.5

// A transaction that overlaps no other one has no conflict, whatever it does and whoever did what before.
func TestOneAfterTheOther(t *testing.T) {
	for seed := range 200 {
		d := dice(seed*7919 + 1)
		s := store(t, limits())
		w := newWorld(t, s, 3)
		for range 12 {
			w.solo(&d, d.throw(3))
		}
		w.check("one after the other")
		for _, x := range w.trips {
			if x.ended && x.code != 0 {
				t.Fatalf("seed %d: %v", seed, x)
			}
		}
	}
}

// A flush is no transaction.
func TestFlushesAreNoConflict(t *testing.T) {
	for at := range 60 {
		s := filled(t, 1, "a=1 b=1", "a=2 c=2", "-b d=3")
		x, y := begun(t, s, 0, false), txn.NewClient(1)
		y.Flush()
		for range at {
			y.Step(s)
		}
		is(t, "Get", does(t, s, x, x.Get("a")), there("2"))
		is(t, "Range", does(t, s, x, x.Range(span("", ""), 0, false)), txn.Result{Rows: list("a=2 c=2 d=3")})
		records(t, x, "a=4")
		is(t, "Commit", does(t, s, x, x.Commit()), txn.Result{Number: 4})
		is(t, "Flush", does(t, s, y, nil), txn.Result{Number: 2})
		flush(t, s, 2)
		if l, err := tree.Scan(s.Mem); told(l) != "a=4 c=2 d=3" || err != nil {
			t.Fatal(told(l), err)
		}
	}
}

// Two clients that append at the same moment: one of them succeeds at first.
func TestTwoCommits(t *testing.T) {
	for k := range 8 {
		s := filled(t, 0, "a=1")
		x, y := begun(t, s, 0, false), begun(t, s, 1, false)
		records(t, x, "b=1")
		records(t, y, "b=2")
		x.Commit()
		y.Commit()
		for range k {
			x.Step(s)
		}
		ry := does(t, s, y, nil)
		rx := does(t, s, x, nil)
		want := []txn.Result{{Number: 3}, {Number: 2}}
		if k >= 2 {
			slices.Reverse(want)
		}
		is(t, "the one that waits", rx, want[0])
		is(t, "the other one", ry, want[1])
		for n, c := range []commits.Write{{Key: "b", Value: "1"}, {Key: "b", Value: "2"}} {
			if l, err := s.Table.At([]int{rx.Number, ry.Number}[n]); !slices.Equal(l, []commits.Write{c}) || err != nil {
				t.Error(l, err)
			}
		}
	}
}
