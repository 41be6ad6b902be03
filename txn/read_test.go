package txn_test

import (
	"math"
	"reflect"
	"slices"
	"strconv"
	"testing"

	"rowlock/api"
	"rowlock/bkey"
	"rowlock/commits"
	"rowlock/cursor"
	"rowlock/rows"
	"rowlock/tree"
	"rowlock/txn"
)

// P17.2: Get.

// there is the result of a key that is there.
func there(value string) txn.Result { return txn.Result{Value: value, There: true} }

// inTree is how many accesses a Get of a tree takes that is a single record: Bump, Enter, two for page 0, Leave.
const inTree = 5

func TestGet(t *testing.T) {
	for _, c := range []struct {
		name    string
		base    int
		commits []string
		key     string
		want    txn.Result
		table   int // accesses of the table
		mem     int // accesses of the memory
	}{
		{"nothing anywhere", 0, nil, "a", txn.Result{}, 1, inTree},
		{"in the log", 0, []string{"a=1"}, "a", there("1"), 2, 0},
		{"not in the log", 0, []string{"b=1"}, "a", txn.Result{}, 2, inTree},
		{"an empty value in the log", 0, []string{"a="}, "a", there(""), 2, 0},
		{"gone in the log", 0, []string{"-a"}, "a", txn.Result{}, 2, 0},
		{"the last one of the log", 0, []string{"a=1", "a=2", "a=3"}, "a", there("3"), 4, 0},
		{"the last one that has it", 0, []string{"a=1", "a=2 b=1", "b=2"}, "a", there("2"), 4, 0},
		{"gone at last", 0, []string{"a=1", "-a", "b=2"}, "a", txn.Result{}, 4, 0},
		{"there again", 0, []string{"a=1", "-a", "a=3"}, "a", there("3"), 4, 0},
		{"among others", 0, []string{"a=1 b=2 c=3"}, "b", there("2"), 2, 0},
		{"a key that begins like others", 0, []string{"a=1 abc=2"}, "ab", txn.Result{}, 2, inTree},
		{"in the tree", 1, []string{"a=1"}, "a", there("1"), 1, inTree + 1},
		{"an empty value in the tree", 1, []string{"a="}, "a", there(""), 1, inTree + 1},
		{"gone in the tree", 2, []string{"a=1", "-a"}, "a", txn.Result{}, 1, inTree + 2},
		{"in the tree, and not in the log", 1, []string{"a=1", "b=2", "c=3"}, "a", there("1"), 3, inTree + 1},
		{"in the tree, and in the log", 1, []string{"a=1", "a=2"}, "a", there("2"), 2, 0},
		{"in the tree, and gone in the log", 1, []string{"a=1", "-a"}, "a", txn.Result{}, 2, 0},
		{"gone in the tree, and in the log", 2, []string{"a=1", "-a", "a=3"}, "a", there("3"), 2, 0},
		{"all in the tree", 2, []string{"a=1", "a=2"}, "a", there("2"), 1, inTree + 2},
	} {
		for _, reads := range []bool{false, true} {
			s := filled(t, c.base, c.commits...)
			x := begun(t, s, 1, reads)
			commit(t, s, "-a b=late ab=late", "a=later") // beyond the snapshot
			was := s.Mem.Count()
			if err := x.Get(c.key); err != nil || !x.Pending() {
				t.Fatal(err, x.Pending())
			}
			n, r := steps(t, s, x)
			is(t, c.name, r, c.want)
			if n != c.table+c.mem || s.Mem.Count()-was != c.mem || !x.Inside() {
				t.Errorf("%s: %d steps with %d accesses of the memory", c.name, n, s.Mem.Count()-was)
			}
			idle(t, s, x)
		}
	}
}

// What the transaction wrote itself is told at once.
func TestGetOfItsOwnWrites(t *testing.T) {
	s := filled(t, 1, "a=1 b=1 c=1", "a=2 d=2")
	x := begun(t, s, 1, false)
	records(t, x, "a=3 -b d= -e f=3 f=4 -g g=5 h=6 -h")
	was := copied(s)
	for _, c := range []struct {
		key  string
		want txn.Result
	}{
		{"a", there("3")}, {"b", txn.Result{}}, {"d", there("")}, {"e", txn.Result{}}, {"f", there("4")}, {"g", there("5")}, {"h", txn.Result{}},
	} {
		for range 2 {
			err := x.Get(c.key)
			r, e := x.Result()
			if err != nil || e != nil || x.Pending() || !x.Inside() || !reflect.DeepEqual(s, was) {
				t.Errorf("%s: %v, %v, Pending is %v", c.key, err, e, x.Pending())
			}
			is(t, c.key, r, c.want)
		}
	}
	is(t, "another key", does(t, s, x, x.Get("c")), there("1"))
}

// A Get of what it wrote follows a result that has other fields.
func TestResultsHaveNothingOfOthers(t *testing.T) {
	s := filled(t, 0, "a=1 b=2")
	x := begun(t, s, 0, false)
	records(t, x, "c=3 -d")
	all := "a=1 b=2 c=3"
	for range 2 {
		if r := does(t, s, x, x.Range(span("", ""), 0, false)); told(r.Rows) != all || r.There || r.Value != "" || r.Number != 0 || r.Err != nil {
			t.Error("Range:", r)
		}
		is(t, "Get of its own", does(t, s, x, x.Get("c")), there("3"))
		is(t, "Get", does(t, s, x, x.Get("a")), there("1"))
		is(t, "Get of what it dropped", does(t, s, x, x.Get("d")), txn.Result{})
		is(t, "Get of its own", does(t, s, x, x.Get("c")), there("3"))
		is(t, "Get of what there is not", does(t, s, x, x.Get("x")), txn.Result{})
	}
	is(t, "Commit", does(t, s, x, x.Commit()), txn.Result{Number: 2})
	x = begun(t, s, 0, false)
	does(t, s, x, x.Get("c"))
	is(t, "Abort", does(t, s, x, x.Abort()), txn.Result{})
}

// If a part of the log has been dropped, it is read again.
func TestTheLogIsReadAgain(t *testing.T) {
	for _, c := range []struct {
		key   string
		after []int // how many commits are put into the tree after each access
		want  txn.Result
		table int  // accesses of the table
		mem   bool // whether the tree is asked, too
	}{
		{"a", nil, there("4"), 5, false},
		{"a", []int{1}, there("4"), 6, false},         // Base, At 1, Base, At 2 to 4
		{"a", []int{4}, there("4"), 3, true},          // Base, At 1, Base
		{"a", []int{0, 1}, there("4"), 5, false},      // what is dropped was read before
		{"a", []int{0, 2}, there("4"), 6, false},      // Base, At 1, At 2, Base, At 3, At 4
		{"a", []int{0, 0, 2}, there("4"), 5, false},   // what is dropped was read before
		{"a", []int{0, 0, 3}, there("4"), 6, false},   // Base, At 1 to 3, Base, At 4
		{"a", []int{0, 0, 0, 4}, there("4"), 6, true}, // Base, At 1 to 4, Base
		{"a", []int{1, 0, 1}, there("4"), 7, false},   // Base, At 1, Base, At 2, Base, At 3, At 4
		{"b", []int{1, 0, 1, 0, 1}, there("2"), 8, true},
		{"b", []int{0, 0, 0, 0, 4}, there("2"), 5, false},
		{"x", []int{1, 0, 1, 0, 2}, txn.Result{}, 7, true},
	} {
		s := filled(t, 0, "a=1", "a=2 b=2", "a=3", "a=4")
		x := begun(t, s, 1, true)
		commit(t, s, "-a -b x=5")
		x.Get(c.key)
		table, below := 0, 0
		for k := 0; x.Pending(); k++ {
			was := s.Mem.Count()
			x.Step(s)
			below += s.Mem.Count() - was
			table += was + 1 - s.Mem.Count()
			if k < len(c.after) {
				flush(t, s, c.after[k])
			}
		}
		r, err := x.Result()
		is(t, c.key, r, c.want)
		if table != c.table || (below > 0) != c.mem || err != nil {
			t.Errorf("%s, %v: %d accesses of the table, %d of the memory, %v", c.key, c.after, table, below, err)
		}
	}
}

// A Get while the commits of its snapshot are put into the tree, between any two of its accesses.
func TestGetWhileOthersFlush(t *testing.T) {
	for at := range 30 {
		for times := 1; times <= 3; times++ {
			for _, key := range []string{"a", "b", "c", "x"} {
				s := filled(t, 1, "a=1 b=1 c=1", "a=2 -b", "-c b=3", "a=4")
				x := begun(t, s, 1, false)
				commit(t, s, "-a -b c=5 x=5")
				x.Get(key)
				for k := 0; x.Pending(); k++ {
					if k == at {
						flush(t, s, times)
					}
					x.Step(s)
				}
				r, _ := x.Result()
				is(t, key, r, map[string]txn.Result{"a": there("4"), "b": there("3"), "c": {}, "x": {}}[key])
			}
		}
	}
}

// in is an error as a client has it: a code of a part of the memory, by way of the tree.
func in(n int, place string, slot int, c api.Code) error {
	return &api.Fault{Place: "tree", Slot: n, Err: &api.Fault{Place: place, Slot: slot, Err: c}}
}

// exhaust brings the clock of a memory to its end.
func exhaust(s txn.Store) {
	for _, err := s.Mem.Bump(); err == nil; _, err = s.Mem.Bump() {
	}
}

// low is a store whose counters end soon.
func low(t *testing.T, count int) txn.Store {
	t.Helper()
	l := limits()
	l.Count = count
	return store(t, l)
}

func TestGetWithAnError(t *testing.T) {
	s := low(t, 40)
	commit(t, s, "a=1 b=2", "b=3")
	flush(t, s, 1)
	x := begun(t, s, 1, false)
	exhaust(s)
	was := s.Mem.Count()
	is(t, "the clock at its end", does(t, s, x, x.Get("a")), txn.Result{Err: in(1, "clock", 0, api.ErrExhausted)})
	if s.Mem.Count() != was+1 || !x.Inside() {
		t.Error("the error is not the end:", s.Mem.Count()-was, x.Inside())
	}
	is(t, "in the log", does(t, s, x, x.Get("b")), there("3"))
	records(t, x, "a=4")
	is(t, "its own", does(t, s, x, x.Get("a")), there("4"))
	is(t, "Commit", does(t, s, x, x.Commit()), txn.Result{Number: 3})
}

// Only what is dropped is read again: no such commit at all is an error.
func TestALogThatIsNotThere(t *testing.T) {
	for _, read := range []func(x *txn.Client) error{
		func(x *txn.Client) error { return x.Get("a") },
		func(x *txn.Client) error { return x.Range(span("", ""), 0, false) },
	} {
		s := filled(t, 0, "a=1", "b=2")
		x := begun(t, s, 1, false)
		s.Table = commits.New(3, 9)
		if err := read(x); err != nil {
			t.Fatal(err)
		}
		n, r := steps(t, s, x)
		is(t, "no such commit", r, txn.Result{Err: api.ErrArg})
		if n != 2 || !x.Inside() {
			t.Error(n, x.Inside())
		}
	}
}

// P17.2: Range.

func TestRange(t *testing.T) {
	const all = "a=1 b=8 d=4 e=9 g=7 h=8"
	for _, c := range []struct {
		span bkey.Span
		want string
	}{
		{span("", ""), all},
		{span("a", ""), all},
		{span("b", "e"), "b=8 d=4"},
		{span("c", "d"), ""},
		{span("bb", "gg"), "d=4 e=9 g=7"},
		{span("", "d"), "a=1 b=8"},
		{span("d", "d\x00"), "d=4"},
		{span("e", ""), "e=9 g=7 h=8"},
		{span("f", "g"), ""},
		{span("z", ""), ""},
		{span("", "a"), ""},
		{span("h", "z"), "h=8"},
	} {
		for _, limit := range []int{0, -1, math.MinInt, 1, 2, 3, 6, 7, math.MaxInt} {
			s := filled(t, 2, "a=1 b=2 c=3 d=0", "d=4 e=5 f=6", "-f g=7", "e=7 c=0")
			x := begun(t, s, 1, false)
			commit(t, s, "-a d=late dd=late", "z=later -h")
			records(t, x, "b=8 -c e=9 h=8")
			for _, reverse := range []bool{false, true} {
				want := rows.Take(list(c.want), span("", ""), limit, reverse)
				is(t, "Range of "+c.span.Low+" to "+c.span.High, does(t, s, x, x.Range(c.span, limit, reverse)), txn.Result{Rows: want})
				if !x.Inside() {
					t.Error("not inside any more")
				}
			}
		}
	}
}

// The cursor has no limit: rows that are dropped above the tree make room for others.
func TestALimitBeyondWhatWasDropped(t *testing.T) {
	s := filled(t, 1, "a=1 b=2 c=3 d=4 e=5 f=6 g=7", "-a -g")
	x := begun(t, s, 1, false)
	records(t, x, "-b -f aa=1")
	if r := does(t, s, x, x.Range(span("", ""), 2, false)); told(r.Rows) != "aa=1 c=3" {
		t.Error(told(r.Rows), r.Err)
	}
	if r := does(t, s, x, x.Range(span("", ""), 2, true)); told(r.Rows) != "e=5 d=4" {
		t.Error(told(r.Rows), r.Err)
	}
}

func TestStepsOfARange(t *testing.T) {
	for _, reverse := range []bool{false, true} {
		for base := range 4 {
			s := filled(t, base, "a=1 b=2 c=3", "d=4 e=5 -b", "f=6 a=7")
			x := begun(t, s, 1, true)
			y := copied(s)
			c, err := cursor.New(tree.NewThread(1), span("b", ""), 0, reverse)
			if err != nil {
				t.Fatal(err)
			}
			n := 0
			for !c.Over() {
				c.Step(y.Mem)
				n++
			}
			x.Range(span("b", ""), 1, reverse)
			k, r := steps(t, s, x)
			if k != 1+3-base+n || !reflect.DeepEqual(s, y) {
				t.Errorf("base %d: %d steps, of which the cursor makes %d", base, k, n)
			}
			if want := map[bool]string{false: "c=3", true: "f=6"}[reverse]; told(r.Rows) != want || r.Err != nil {
				t.Errorf("base %d: %q, %v", base, told(r.Rows), r.Err)
			}
		}
	}
}

// The log is read ahead of the tree, and again if a part of it was dropped; the tree may go on while it is read.
func TestRangeWhileOthersFlush(t *testing.T) {
	for at := range 40 {
		for times := 1; times <= 3; times++ {
			for _, reverse := range []bool{false, true} {
				s := filled(t, 1, "a=1 b=1 c=1 d=1", "a=2 -b e=2", "-c b=3", "a=4 -d")
				x := begun(t, s, 1, false)
				commit(t, s, "-a -b c=5 x=5")
				x.Range(span("", ""), 0, reverse)
				for k := 0; x.Pending(); k++ {
					if k == at {
						flush(t, s, times)
					}
					x.Step(s)
				}
				r, _ := x.Result()
				if reverse {
					slices.Reverse(r.Rows)
				}
				if told(r.Rows) != "a=4 b=3 e=2" || r.Err != nil {
					t.Fatalf("%d flushes ahead of step %d: %q, %v", times, at+1, told(r.Rows), r.Err)
				}
			}
		}
	}
}

func TestRangeWithAnError(t *testing.T) {
	for _, reverse := range []bool{false, true} {
		s := low(t, 100)
		commit(t, s, "a=1 b=2 c=3 d=4 e=5 f=6", "g=7")
		flush(t, s, 1)
		x := begun(t, s, 1, false)
		records(t, x, "h=8")
		x.Range(span("", ""), 0, reverse)
		for range 9 { // in the midst of its second batch or later, a step that begins one will fail
			x.Step(s)
		}
		exhaust(s)
		_, r := steps(t, s, x)
		is(t, "the clock at its end", r, txn.Result{Err: in(1, "clock", 0, api.ErrExhausted)})
		x.Range(span("c", ""), 0, reverse)
		n, r := steps(t, s, x)
		is(t, "the clock at its end", r, txn.Result{Err: in(1, "clock", 0, api.ErrExhausted)})
		if n != 3 || !x.Inside() {
			t.Error(n, x.Inside())
		}
	}
}

// A transaction that reads a lot, of a log and of a tree that are long.
func TestManyRows(t *testing.T) {
	l := limits()
	l.Slots, l.Pages, l.Rows, l.Chain = 2000, 200, 8, 8
	s := store(t, l)
	var all []api.Row
	for i := range 300 {
		k := strconv.Itoa(1000 + i)
		commit(t, s, k+"="+strconv.Itoa(i))
		all = append(all, api.Row{Key: k, Value: strconv.Itoa(i)})
	}
	x := begun(t, s, 0, false)
	for base := range 4 {
		r := does(t, s, x, x.Range(span("", ""), 0, false))
		if !slices.Equal(r.Rows, all) || r.Err != nil {
			t.Fatal(base, told(r.Rows), r.Err)
		}
		r = does(t, s, x, x.Range(span("1050", "1250"), 100, true))
		if want := rows.Take(all, span("1050", "1250"), 100, true); !slices.Equal(r.Rows, want) || r.Err != nil {
			t.Fatal(base, told(r.Rows), r.Err)
		}
		is(t, "Get", does(t, s, x, x.Get("1150")), there("150"))
		flush(t, s, 100*min(1, 3-base))
	}
}
