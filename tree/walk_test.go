package tree_test

import (
	"reflect"
	"strconv"
	"testing"

	"rowlock/api"
	"rowlock/epoch"
	"rowlock/leaf"
	"rowlock/mem"
	"rowlock/tree"
)

// Phase 1: entering.

func TestTheClockAtItsEnd(t *testing.T) {
	l := limits()
	l.Count = 8
	m := memory(t, l)
	x := tree.NewThread(2)
	for range 7 {
		does(t, x, m, get("a"), "", api.ErrNone)
	}
	for _, c := range []api.Call{get("a"), upsert("a", "1"), remove("a")} {
		was := m.Count()
		does(t, x, m, c, "", in(2, "clock", 0, api.ErrExhausted))
		if m.Count() != was+1 {
			t.Errorf("%d accesses", m.Count()-was)
		}
	}
	holds(t, "at the end of the clock", m, "0=")
	if _, inside := at(m, 2); inside {
		t.Error("the thread is inside")
	}
}

func TestAThreadThatThereIsNot(t *testing.T) {
	for _, n := range []int{-1, 3, 64, 1 << 40} {
		m := laid(t)
		x := starts(t, n, upsert("a", "1"))
		takes(t, "no such thread", x, m, 2)
		replies(t, "no such thread", x, api.Reply{Err: in(n, "clock", n, api.ErrArg)})
		if now(m) != 2 {
			t.Error("the clock is at", now(m))
		}
	}
}

func TestAThreadThatIsInside(t *testing.T) {
	m := laid(t)
	other := starts(t, 1, get("a"))
	some(t, other, m, 3)
	x := starts(t, 1, get("a"))
	takes(t, "inside", x, m, 2)
	replies(t, "inside", x, api.Reply{Err: in(1, "clock", 1, api.ErrState)})
	if n, inside := at(m, 1); n != 2 || !inside {
		t.Error("the other one is not inside any more")
	}
	takes(t, "the other one", other, m, 4)
	replies(t, "the other one", other, api.Reply{Value: "a"})
	does(t, x, m, get("a"), "a", nil)
}

func TestAThreadEntersAtItsOwnBump(t *testing.T) {
	m := laid(t)
	x := starts(t, 1, get("a"))
	x.Step(m)
	m.Bump()
	m.Bump()
	x.Step(m)
	if n, inside := at(m, 1); n != 2 || !inside || now(m) != 4 {
		t.Errorf("inside at %d, %v, of %d", n, inside, now(m))
	}
}

// Without a way in, nothing is swept.
func TestABinStaysIfTheThreadDoesNotEnter(t *testing.T) {
	m := longChain(t)
	x := starts(t, 0, upsert("c", "new"))
	for len(x.Bin()) == 0 {
		x.Step(m)
	}
	m.Enter(1, 1)
	steps(t, x, m)
	bin := x.Bin()
	m.Enter(0, 1)
	begins(t, x, get("c"))
	takes(t, "inside", x, m, 2)
	binned(t, "inside", x, bin...)
}

// Phase 3: what calls do at a leaf. Without bounds there are two accesses on the way in, two for each page, and one on the way out.

func TestCalls(t *testing.T) {
	put := func(key, value string) *api.Record {
		return &api.Record{Kind: api.LeafPut, Key: key, Value: value}
	}
	del := func(key string) *api.Record { return &api.Record{Kind: api.LeafDel, Key: key} }
	for _, c := range []struct {
		call   api.Call
		value  string
		err    error
		record *api.Record
	}{
		{get("c"), "c", nil, nil},
		{get("cc"), "", api.ErrNone, nil},
		{api.Call{Kind: api.Get, Key: "c", Value: "ignored, whatever"}, "c", nil, nil},
		{insert("c", "new"), "", api.ErrThere, nil},
		{insert("cc", "new"), "", nil, put("cc", "new")},
		{insert("cc", ""), "", nil, put("cc", "")},
		{update("c", "new"), "c", nil, put("c", "new")},
		{update("c", "c"), "c", nil, put("c", "c")},
		{update("cc", "new"), "", api.ErrNone, nil},
		{upsert("c", "new"), "c", nil, put("c", "new")},
		{upsert("cc", "new"), "", nil, put("cc", "new")},
		{remove("c"), "c", nil, del("c")},
		{remove("cc"), "", api.ErrNone, nil},
		{api.Call{Kind: api.Delete, Key: "c", Value: "ignored, whatever"}, "c", nil, del("c")},
	} {
		m := laid(t)
		old, live := head(m, 2), len(m.Live())
		was := m.Count()
		does(t, tree.NewThread(0), m, c.call, c.value, c.err)
		want, name := []api.Record{base("c", "e", 3, "cd")}, tell(c.call)
		accesses := 7
		if c.record != nil {
			c.record.Next = old
			want = []api.Record{*c.record, want[0]}
			accesses = 9
			live++
		}
		records(t, name, m, 2, want...)
		if m.Count() != was+accesses || len(m.Live()) != live {
			t.Errorf("%s: %d accesses, and %d live slots", name, m.Count()-was, len(m.Live()))
		}
		if _, inside := at(m, 0); inside {
			t.Errorf("%s: the thread is inside", name)
		}
	}
}

func TestCallsOneAfterTheOther(t *testing.T) {
	m := memory(t, limits())
	x := tree.NewThread(0)
	does(t, x, m, upsert("k", ""), "", nil)
	does(t, x, m, get("k"), "", nil)
	does(t, x, m, insert("k", "1"), "", api.ErrThere)
	does(t, x, m, update("k", "2"), "", nil)
	does(t, x, m, upsert("k", "3"), "2", nil)
	does(t, x, m, remove("k"), "3", nil)
	does(t, x, m, remove("k"), "", api.ErrNone)
	does(t, x, m, update("k", "4"), "", api.ErrNone)
	does(t, x, m, get("k"), "", api.ErrNone)
	does(t, x, m, insert("k", "5"), "", nil)
	does(t, x, m, get("k"), "5", nil)
}

// Between the load of a leaf and the swap another thread changes the leaf: the call begins again, and does what is right then.
func TestASwapThatDoesNotSucceed(t *testing.T) {
	for _, c := range []struct {
		call, other api.Call
		more        int // accesses after the swap: undoing, two pages with one record more, and the way out
		reply       api.Reply
		rows        []api.Row
	}{
		{insert("c1", "new"), insert("c1", "old"), 1 + 5 + 1, api.Reply{Err: api.ErrThere}, []api.Row{{Key: "c", Value: "c"}, {Key: "c1", Value: "old"}, {Key: "d", Value: "d"}}},
		{insert("c1", "new"), insert("c2", "old"), 1 + 5 + 3, api.Reply{}, []api.Row{{Key: "c", Value: "c"}, {Key: "c1", Value: "new"}, {Key: "c2", Value: "old"}, {Key: "d", Value: "d"}}},
		{update("c", "new"), remove("c"), 1 + 5 + 1, api.Reply{Err: api.ErrNone}, list("d")},
		{update("c", "new"), update("c", "old"), 1 + 5 + 3, api.Reply{Value: "old"}, []api.Row{{Key: "c", Value: "new"}, {Key: "d", Value: "d"}}},
		{upsert("c", "new"), remove("c"), 1 + 5 + 3, api.Reply{}, []api.Row{{Key: "c", Value: "new"}, {Key: "d", Value: "d"}}},
		{remove("c"), remove("c"), 1 + 5 + 1, api.Reply{Err: api.ErrNone}, list("d")},
		{remove("c"), update("c", "old"), 1 + 5 + 3, api.Reply{Value: "old"}, list("d")},
	} {
		for ahead := 5; ahead <= 7; ahead++ {
			m := laid(t)
			x := starts(t, 0, c.call)
			some(t, x, m, ahead)
			steps(t, starts(t, 1, c.other), m)
			takes(t, tell(c.call), x, m, 8-ahead+c.more)
			replies(t, tell(c.call), x, c.reply)
			if got := keys(t, m, 2); !reflect.DeepEqual(got, c.rows) {
				t.Errorf("%s: %v", tell(c.call), got)
			}
		}
	}
}

// Example 2 of the whole.

func TestTwoThreadsInsertTheSameKey(t *testing.T) {
	for first := range 8 {
		m := memory(t, limits())
		x, y := starts(t, 0, insert("a", "0")), starts(t, 1, insert("a", "1"))
		for range first {
			x.Step(m)
		}
		for range 100 {
			x.Step(m)
			y.Step(m)
		}
		r, _ := x.Reply()
		s, _ := y.Reply()
		switch words(m, 0) {
		case "a":
			won := keys(t, m, 0)[0].Value
			if won == "0" && (r.Err != nil || s.Err != error(api.ErrThere)) || won == "1" && (s.Err != nil || r.Err != error(api.ErrThere)) {
				t.Errorf("%s won: %v, %v", won, r, s)
			}
		default:
			t.Error(state(m))
		}
	}
}

// Phase 2: the walk.

func TestDown(t *testing.T) {
	m := laid(t)
	n := add(t, m, upper(api.Entry{Page: 1}, api.Entry{Key: "c", Page: 2}, api.Entry{Key: "e", Page: 3}))
	replace(t, m, 0, upper(api.Entry{Page: n}))
	x := starts(t, 0, get("d"))
	takes(t, "two inner pages", x, m, 2+6+1)
	replies(t, "two inner pages", x, api.Reply{Value: "d"})
}

// behindSplit is laid with a page 2 that was split at d, without an entry above: page 4 has d.
func behindSplit(t *testing.T) *mem.Memory {
	l := limits()
	l.Rows = 5
	m := laidIn(t, l)
	n := add(t, m, base("d", "e", 3, "d"))
	write(t, m, 2, api.Record{Kind: api.LeafSplit, Key: "d", Page: n})
	return m
}

func TestAcross(t *testing.T) {
	m := behindSplit(t)
	was := state(m)
	x := starts(t, 0, get("d"))
	takes(t, "who reads", x, m, 2+2+3+2+1)
	replies(t, "who reads", x, api.Reply{Value: "d"})
	holds(t, "who reads", m, was)

	m = behindSplit(t) // with the entry it is another page
	write(t, m, 0, api.Record{Kind: api.InnerPut, Key: "d", Page: 4})
	x = starts(t, 0, get("d"))
	takes(t, "with the entry", x, m, 2+3+2+1)
	replies(t, "with the entry", x, api.Reply{Value: "d"})
}

// Across keeps the page above: what lies to the right of the next page still gets its entry.
func TestAcrossKeepsThePageAbove(t *testing.T) {
	m := laid(t)
	add(t, m, base("d", "e", 3, "d"))
	replace(t, m, 2, base("c", "d", 4, "c"))
	top := upper(api.Entry{Page: 1}, api.Entry{Key: "c", Page: 2}, api.Entry{Key: "d", Page: 2}, api.Entry{Key: "e", Page: 3}) // from d on keys are not in page 2, but to its right
	replace(t, m, 0, top)
	n := add(t, m, base("d5", "e", 3, ""))
	write(t, m, 4, api.Record{Kind: api.LeafSplit, Key: "d5", Page: n})
	above := head(m, 0)
	x := starts(t, 0, upsert("d7", "new"))
	some(t, x, m, 2+2+2+3+2)
	records(t, "across", m, 0, api.Record{Kind: api.InnerPut, Key: "d5", Page: 5, Next: above}, top)
}

// Again begins with nothing above: what was above once does not count at page 0.
func TestAgainBeginsWithNothingAbove(t *testing.T) {
	m := laid(t)
	write(t, m, 3, api.Record{Kind: api.LeafRemove})
	x := starts(t, 0, upsert("z", "new"))
	some(t, x, m, 2+2+3)
	n := add(t, m, base("x", "", 0, ""))
	replace(t, m, 0, api.Record{Kind: api.InnerBase, High: "x", Right: n, Entries: []api.Entry{{Page: 1}, {Key: "c", Page: 2}, {Key: "e", Page: 3}}})
	takes(t, "to the right of page 0", x, m, 2+2+2+1)
	holds(t, "to the right of page 0", m, "0=1c2e3 1=ab 2=cd 3=ef! 4=z")
}

// Example 3 of the whole.

func TestPost(t *testing.T) {
	m := behindSplit(t)
	above := head(m, 0)
	x := starts(t, 0, upsert("d", "new"))
	some(t, x, m, 2+2+3)
	records(t, "ahead of the entry", m, 0, upper(api.Entry{Page: 1}, api.Entry{Key: "c", Page: 2}, api.Entry{Key: "e", Page: 3}))
	some(t, x, m, 2)
	records(t, "an entry", m, 0,
		api.Record{Kind: api.InnerPut, Key: "d", Page: 4, Next: above},
		upper(api.Entry{Page: 1}, api.Entry{Key: "c", Page: 2}, api.Entry{Key: "e", Page: 3}))
	takes(t, "an entry", x, m, 3+2+2+1)
	replies(t, "an entry", x, api.Reply{Value: "d"})
	holds(t, "an entry", m, "0=1c2d4e3 1=ab 2=c 3=ef 4=d")
	binned(t, "an entry", x)
}

func TestPostThatDoesNotSucceed(t *testing.T) {
	m := behindSplit(t)
	x := starts(t, 0, upsert("d", "new"))
	some(t, x, m, 2+2+3)
	write(t, m, 0, api.Record{Kind: api.InnerPut, Key: "b", Page: 1})
	live := len(m.Live())
	some(t, x, m, 3)
	if live != len(m.Live()) {
		t.Errorf("%d live slots, of %d", len(m.Live()), live)
	}
	takes(t, "another entry", x, m, 3+3+2+4+2+2+1)
	replies(t, "another entry", x, api.Reply{Value: "d"})
	holds(t, "another entry", m, "0=1b1c2d4e3 1=ab 2=c 3=ef 4=d")

	m = behindSplit(t) // somebody else put it
	x = starts(t, 0, upsert("d", "new"))
	some(t, x, m, 2+2+3)
	write(t, m, 0, api.Record{Kind: api.InnerPut, Key: "d", Page: 4})
	takes(t, "the same entry", x, m, 3+3+2+2+1)
	holds(t, "the same entry", m, "0=1c2d4e3 1=ab 2=c 3=ef 4=d")
}

// Example 4 of the whole.

func TestHelp(t *testing.T) {
	m := heldLeaf(t)
	x := starts(t, 0, upsert("x", "new"))
	some(t, x, m, 2+3)
	gone := head(m, 2)
	some(t, x, m, 10)
	holds(t, "a hold", m, "0=1e3 1=abcd 2=cd! 3=ef")
	binned(t, "ahead of Now", x)
	removed := head(m, 2)
	if removed == gone {
		t.Fatal("the page is not removed")
	}
	m.Bump()
	some(t, x, m, 1)
	binned(t, "a hold", x, epoch.Item{Stamp: 3, Chain: removed, Page: 2})
	some(t, x, m, 4+2+2)
	takes(t, "a hold", x, m, 1+1+3+4+1) // Leave, Bump, At, and then two records and a page
	replies(t, "a hold", x, api.Reply{})
	holds(t, "a hold", m, "0=1e3 1=abcd 3=efx")
	binned(t, "a hold", x)
}

func TestHelpOfAnotherOne(t *testing.T) {
	m := heldLeaf(t)
	x, y := starts(t, 0, upsert("x", "new")), starts(t, 1, upsert("y", "new"))
	some(t, x, m, 2+3+9)     // all but the drop
	some(t, y, m, 2+3+3+3+2) // what x put is there already
	holds(t, "who drops", m, "0=1e3 1=abcd 2=cd! 3=ef")
	binned(t, "ahead of Now", y)
	some(t, y, m, 1)
	binned(t, "who drops", y, epoch.Item{Stamp: 3, Chain: head(m, 2), Page: 2})
	some(t, x, m, 2) // the swap, and undoing
	steps(t, x, m)
	binned(t, "who does not drop", x)
	replies(t, "who does not drop", x, api.Reply{})
	steps(t, y, m)
	sweeps(t, y, m)
	holds(t, "who drops", m, "0=1e3 1=abcd 3=efxy")
}

func TestWhoReadsDoesNotHelp(t *testing.T) {
	m := heldLeaf(t)
	x := starts(t, 0, get("d"))
	takes(t, "who reads", x, m, 2+3+2+1)
	replies(t, "who reads", x, api.Reply{Value: "d"})
	holds(t, "who reads", m, "0=1c2e3! 1=ab 2=cd 3=ef")
}

// A Get that comes to a page that is gone changes, from then on, what is in its way.
func TestWhoReadsHelpsFromAPageThatIsGoneOn(t *testing.T) {
	m := heldLeaf(t)
	write(t, m, 2, api.Record{Kind: api.LeafRemove})
	x := starts(t, 0, get("d"))
	some(t, x, m, 2+3+3)
	holds(t, "gone", m, "0=1c2e3! 1=ab 2=cd! 3=ef")
	some(t, x, m, 3+3+4+2+1) // page 0, and then the helper, which finds the page gone, and Now
	holds(t, "helped", m, "0=1e3 1=abcd 2=cd! 3=ef")
	steps(t, x, m)
	replies(t, "helped", x, api.Reply{Value: "d"})

	if y := starts(t, 1, get("d")); steps(t, y, m) != 2+4+3+1 {
		t.Error("another Get helps, too")
	}
}

// After Again at a leaf a Get changes whatever is to be changed; Again elsewhere does not count.
func TestWhoReadsChangesNothingAheadOfAPageThatIsGone(t *testing.T) {
	m := laid(t)
	write(t, m, 2, api.Record{Kind: api.LeafRemove})
	x := starts(t, 0, get("d"))
	some(t, x, m, 2+2+3) // Again, at a leaf
	replace(t, m, 0, upper(api.Entry{Page: 1}, api.Entry{Key: "c", Page: 2}, api.Entry{Key: "e", Page: 3}, api.Entry{Key: "x", Page: 3}, api.Entry{Key: "y", Page: 3}))
	some(t, x, m, 2+2+3+2+1) // Grow: five entries are too many
	if got, want := state(m), "0=4e5 1=ab 2=cd! 3=ef 4=1c2 5=e3x3y3"; got != want {
		t.Errorf("%q, not %q", got, want)
	}
	binned(t, "Grow by a Get", x)

	m = laid(t) // Again, at an inner page that the key is before
	n := add(t, m, api.Record{Kind: api.InnerBase, Low: "e", Unbounded: true, Entries: []api.Entry{{Key: "e", Page: 3}}})
	replace(t, m, 0, upper(api.Entry{Page: n}))
	x = starts(t, 0, get("d"))
	some(t, x, m, 2+4*6)
	write(t, m, 0, api.Record{Kind: api.InnerPut, Key: "c", Page: 2})
	for range 4 {
		write(t, m, 2, api.Record{Kind: api.LeafPut, Key: "c", Value: "new"})
	}
	takes(t, "no change", x, m, 3+6+1)
	replies(t, "no change", x, api.Reply{Value: "d"})
	if chain, _, _ := m.Chain(2); len(chain) != 5 {
		t.Error("a Get tidies up")
	}
}

func TestWhatAGetLearntIsForgottenWithTheCall(t *testing.T) {
	m := heldLeaf(t)
	write(t, m, 2, api.Record{Kind: api.LeafRemove})
	x := starts(t, 0, get("d"))
	steps(t, x, m)
	m = heldLeaf(t)
	begins(t, x, get("d"))
	some(t, x, m, 2+3+2)
	holds(t, "another Get", m, "0=1c2e3! 1=ab 2=cd 3=ef")
}

func TestTidyALeaf(t *testing.T) {
	m := longChain(t)
	old := head(m, 2)
	x := starts(t, 0, upsert("d", "new"))
	some(t, x, m, 2+2+6)
	some(t, x, m, 2)
	tidied := api.Record{Kind: api.LeafBase, Low: "c", High: "e", Right: 3, Rows: []api.Row{{Key: "c", Value: "3"}, {Key: "d", Value: "d"}}}
	records(t, "tidy", m, 2, tidied)
	now := head(m, 2)
	binned(t, "ahead of Now", x)
	m.Bump()
	some(t, x, m, 1)
	binned(t, "tidy", x, epoch.Item{Stamp: 3, Chain: old, Page: -1})
	live := len(m.Live())
	some(t, x, m, 4+2)
	takes(t, "tidy", x, m, 1+1+3+5*2)
	records(t, "tidy", m, 2, api.Record{Kind: api.LeafPut, Key: "d", Value: "new", Next: now}, tidied)
	binned(t, "tidy", x)
	if len(m.Live()) != live+1-5 {
		t.Errorf("%d live slots, of %d", len(m.Live()), live)
	}
}

func TestAChainThatIsNotTooLong(t *testing.T) {
	m := laid(t)
	for range 3 {
		write(t, m, 2, api.Record{Kind: api.LeafPut, Key: "c"})
	}
	x := starts(t, 0, upsert("d", "new"))
	takes(t, "four records", x, m, 2+2+5+2+1)
	x = starts(t, 0, upsert("d", "new"))
	some(t, x, m, 2+2+6+3)
	if chain, _, _ := m.Chain(2); len(chain) != 1 {
		t.Error("five records are not tidied up:", chain)
	}
}

func TestTidyAnInnerPage(t *testing.T) {
	m := laid(t)
	n := add(t, m, base("x", "", 0, ""))
	for k, key := range []string{"x", "y", "y", "x"} {
		write(t, m, 0, api.Record{Kind: []int{api.InnerPut, api.InnerPut, api.InnerSplit, api.InnerSplit}[k], Key: key, Page: n})
	}
	old := head(m, 0)
	x := starts(t, 0, remove("a"))
	some(t, x, m, 2+6+2+1)
	records(t, "tidy", m, 0, api.Record{Kind: api.InnerBase, High: "x", Right: n, Entries: []api.Entry{{Page: 1}, {Key: "c", Page: 2}, {Key: "e", Page: 3}}})
	binned(t, "tidy", x, epoch.Item{Stamp: 2, Chain: old, Page: -1})
	steps(t, x, m)
	replies(t, "tidy", x, api.Reply{Value: "a"})
}

func TestTidyThatDoesNotSucceed(t *testing.T) {
	m := longChain(t)
	x := starts(t, 0, upsert("d", "new"))
	some(t, x, m, 2+2+6)
	write(t, m, 2, api.Record{Kind: api.LeafDel, Key: "c"})
	old := head(m, 2)
	live := len(m.Live())
	some(t, x, m, 3)
	binned(t, "another record", x)
	if len(m.Live()) != live {
		t.Errorf("%d live slots, of %d", len(m.Live()), live)
	}
	some(t, x, m, 2+7+2+1)
	records(t, "another record", m, 2, api.Record{Kind: api.LeafBase, Low: "c", High: "e", Right: 3, Rows: list("d")})
	binned(t, "another record", x, epoch.Item{Stamp: 2, Chain: old, Page: -1})
}

func TestSplitALeaf(t *testing.T) {
	m := crowded(t)
	old := head(m, 2)
	x := starts(t, 0, upsert("c", "new"))
	some(t, x, m, 2+4)
	some(t, x, m, 5)
	chain, _, _ := m.Chain(2)
	if want := (api.Record{Kind: api.LeafSplit, Key: "c2", Page: 4, Next: old}); !same(chain[:1], []api.Record{want}) {
		t.Errorf("%+v, not %+v", chain[0], want)
	}
	records(t, "the right half", m, 4, api.Record{Kind: api.LeafBase, Low: "c2", High: "e", Right: 3, Rows: []api.Row{{Key: "c2"}, {Key: "c3"}, {Key: "d"}}})
	holds(t, "without an entry", m, "0=1c2e3 1=ab 2=cc1 3=ef 4=c2c3d")
	takes(t, "split", x, m, 2+3+2+1) // the key is in the left half: there is no entry yet
	binned(t, "split", x)
	replies(t, "split", x, api.Reply{})
	holds(t, "split", m, "0=1c2e3 1=ab 2=cc1 3=ef 4=c2c3d")

	does(t, x, m, remove("c3"), "", nil) // the key is in the right half
	holds(t, "with an entry", m, "0=1c2c24e3 1=ab 2=cc1 3=ef 4=c2d")
}

func TestRowsThatAreNotTooMany(t *testing.T) {
	m := laid(t)
	replace(t, m, 2, api.Record{Kind: api.LeafBase, Low: "c", High: "e", Right: 3, Rows: []api.Row{{Key: "c"}, {Key: "c1"}, {Key: "c2"}, {Key: "c3"}}})
	takes(t, "four rows", starts(t, 0, upsert("c", "new")), m, 2+4+2+1)
	takes(t, "five rows", starts(t, 0, upsert("d", "new")), m, 2+2+3+2+1)
	holds(t, "five rows", m, "0=1c2e3 1=ab 2=cc1c2c3d 3=ef")
}

func TestSplitAnInnerPage(t *testing.T) {
	m := laid(t)
	n := add(t, m, upper(api.Entry{Page: 1}, api.Entry{Key: "c", Page: 2}, api.Entry{Key: "e", Page: 3}, api.Entry{Key: "x", Page: 3}, api.Entry{Key: "y", Page: 3}))
	replace(t, m, 0, upper(api.Entry{Page: n}))
	old := head(m, n)
	x := starts(t, 0, remove("a"))
	some(t, x, m, 2+4+5)
	records(t, "split", m, n, api.Record{Kind: api.InnerSplit, Key: "e", Page: 5, Next: old}, upper(api.Entry{Page: 1}, api.Entry{Key: "c", Page: 2}, api.Entry{Key: "e", Page: 3}, api.Entry{Key: "x", Page: 3}, api.Entry{Key: "y", Page: 3}))
	records(t, "the right half", m, 5, api.Record{Kind: api.InnerBase, Low: "e", Unbounded: true, Entries: []api.Entry{{Key: "e", Page: 3}, {Key: "x", Page: 3}, {Key: "y", Page: 3}}})
	takes(t, "split", x, m, 2+3+2+2+1)
	does(t, x, m, remove("e"), "e", nil)
	holds(t, "split", m, "0=4e5 1=b 2=cd 3=f 4=1c2 5=e3x3y3")
}

func TestSplitThatDoesNotSucceed(t *testing.T) {
	m := crowded(t)
	x := starts(t, 0, upsert("c", "new"))
	some(t, x, m, 2+4)
	write(t, m, 2, api.Record{Kind: api.LeafDel, Key: "c1"})
	live := len(m.Live())
	some(t, x, m, 5+3)
	holds(t, "another record", m, "0=1c2e3 1=ab 2=cc2c3d 3=ef")
	if len(m.Live()) != live {
		t.Errorf("%d live slots, of %d", len(m.Live()), live)
	}
	takes(t, "another record", x, m, 2+3+2+1)
	binned(t, "another record", x)
}

func TestGrowALeaf(t *testing.T) {
	m := memory(t, limits())
	replace(t, m, 0, base("", "", 7, "abcde"))
	old := head(m, 0)
	x := starts(t, 0, upsert("c", "new"))
	some(t, x, m, 2+2)
	some(t, x, m, 8)
	top := api.Record{Kind: api.InnerBase, Unbounded: true, Right: 7, Entries: []api.Entry{{Page: 1}, {Key: "c", Page: 2}}}
	records(t, "the top", m, 0, top)
	records(t, "the left half", m, 1, base("", "c", 2, "ab"))
	records(t, "the right half", m, 2, base("c", "", 7, "cde"))
	binned(t, "ahead of Now", x)
	some(t, x, m, 1)
	binned(t, "grow", x, epoch.Item{Stamp: 2, Chain: old, Page: -1})
	takes(t, "grow", x, m, 2+2+2+1+1+3+2)
	binned(t, "grow", x)
	replies(t, "grow", x, api.Reply{Value: "c"})
	holds(t, "grow", m, "0=1c2 1=ab 2=cde")
	if len(m.Live()) != 4 {
		t.Errorf("%d live slots", len(m.Live()))
	}
}

func TestGrowAnInnerPage(t *testing.T) {
	m := laid(t)
	replace(t, m, 0, upper(api.Entry{Page: 1}, api.Entry{Key: "c", Page: 2}, api.Entry{Key: "e", Page: 3}, api.Entry{Key: "x", Page: 3}, api.Entry{Key: "y", Page: 3}))
	old := head(m, 0)
	x := starts(t, 0, remove("a"))
	some(t, x, m, 2+2+8+1)
	records(t, "the top", m, 0, upper(api.Entry{Page: 4}, api.Entry{Key: "e", Page: 5}))
	records(t, "the left half", m, 4, api.Record{Kind: api.InnerBase, High: "e", Right: 5, Entries: []api.Entry{{Page: 1}, {Key: "c", Page: 2}}})
	records(t, "the right half", m, 5, api.Record{Kind: api.InnerBase, Low: "e", Unbounded: true, Entries: []api.Entry{{Key: "e", Page: 3}, {Key: "x", Page: 3}, {Key: "y", Page: 3}}})
	binned(t, "grow", x, epoch.Item{Stamp: 2, Chain: old, Page: -1})
	steps(t, x, m)
	replies(t, "grow", x, api.Reply{Value: "a"})
	holds(t, "grow", m, "0=4e5 1=b 2=cd 3=ef 4=1c2 5=e3x3y3")
}

func TestGrowThatDoesNotSucceed(t *testing.T) {
	m := memory(t, limits())
	replace(t, m, 0, base("", "", 0, "abcde"))
	x := starts(t, 0, upsert("c", "new"))
	some(t, x, m, 2+2)
	write(t, m, 0, api.Record{Kind: api.LeafDel, Key: "a"})
	some(t, x, m, 8+5)
	holds(t, "another record", m, "0=bcde")
	binned(t, "another record", x)
	takes(t, "another record", x, m, 3+2+1)
	holds(t, "another record", m, "0=bcde")
	if len(m.Live()) != 3 {
		t.Errorf("%d live slots", len(m.Live()))
	}
}

// hollow is laid with a page 2 without rows.
func hollow(t *testing.T) *mem.Memory {
	m := laid(t)
	replace(t, m, 2, base("c", "e", 3, ""))
	return m
}

func TestHold(t *testing.T) {
	m := hollow(t)
	above := head(m, 0)
	x := starts(t, 0, upsert("c", "new"))
	some(t, x, m, 2+4)
	some(t, x, m, 2)
	records(t, "a hold", m, 0,
		api.Record{Kind: api.InnerHold, Hold: middle(), Next: above},
		upper(api.Entry{Page: 1}, api.Entry{Key: "c", Page: 2}, api.Entry{Key: "e", Page: 3}))
	binned(t, "a hold", x)
	some(t, x, m, 3+10)
	removed := head(m, 2)
	some(t, x, m, 1)
	binned(t, "done", x, epoch.Item{Stamp: 2, Chain: removed, Page: 2})
	steps(t, x, m)
	replies(t, "a hold", x, api.Reply{})
	holds(t, "a hold", m, "0=1e3 1=abc 3=ef")
	binned(t, "a hold", x)
}

func TestHoldThatDoesNotSucceed(t *testing.T) {
	m := hollow(t)
	x := starts(t, 0, upsert("c", "new"))
	some(t, x, m, 2+4)
	write(t, m, 0, api.Record{Kind: api.InnerPut, Key: "d", Page: 7})
	live := len(m.Live())
	some(t, x, m, 3)
	holds(t, "another entry", m, "0=1c2d7e3 1=ab 2= 3=ef")
	if len(m.Live()) != live {
		t.Errorf("%d live slots, of %d", len(m.Live()), live)
	}
	some(t, x, m, 3+2+2)
	holds(t, "then", m, "0=1c2d7e3! 1=ab 2= 3=ef")
}

func TestNoHold(t *testing.T) {
	m := laid(t) // of the first page
	replace(t, m, 1, base("", "c", 2, ""))
	takes(t, "the first page", starts(t, 0, upsert("b", "new")), m, 2+4+2+1)
	m = hollow(t) // by who reads
	takes(t, "who reads", starts(t, 0, get("c")), m, 2+4+1)
	m = memory(t, limits()) // of page 0
	takes(t, "page 0", starts(t, 0, remove("c")), m, 2+2+1)
}

// Phase 4: errors on the way. The thread leaves.

// fails asks that a call fails after so many accesses, with an error, and that its thread is outside then.
func fails(t *testing.T, name string, m *mem.Memory, x *tree.Thread, n int, err error) {
	t.Helper()
	takes(t, name, x, m, n)
	replies(t, name, x, api.Reply{Err: err})
	if _, inside := at(m, 1); inside {
		t.Errorf("%s: the thread is inside", name)
	}
}

func TestErrorsOfLoading(t *testing.T) {
	m := laid(t)
	m.Free(head(m, 2))
	fails(t, "a record that is free", m, starts(t, 1, get("c")), 2+4+1, in(1, "arena", 3, api.ErrStale))

	m = laid(t)
	m.Give(2)
	fails(t, "a page that is free", m, starts(t, 1, upsert("c", "new")), 2+3+1, in(1, "table", 2, api.ErrNone))

	m = laid(t)
	replace(t, m, 0, upper(api.Entry{Page: 1}, api.Entry{Key: "c", Page: -5}))
	fails(t, "no such page", m, starts(t, 1, remove("c")), 2+3+1, in(1, "table", -5, api.ErrArg))

	m = laid(t)
	n, _ := m.Take()
	replace(t, m, 0, upper(api.Entry{Page: 1}, api.Entry{Key: "c", Page: n}))
	fails(t, "a page without records", m, starts(t, 1, get("c")), 2+3+1, by(1, api.ErrChain))

	for kind, c := range map[int]api.Code{99: api.ErrKind, api.InnerPut: api.ErrKind, api.LeafBase: api.ErrChain} {
		m = laid(t)
		write(t, m, 2, api.Record{Kind: kind})
		fails(t, "no chain", m, starts(t, 1, get("c")), 2+2+3+1, by(1, c))
	}
}

func TestErrorsOfJobs(t *testing.T) {
	full := func(m *mem.Memory, free int) *mem.Memory {
		for range m.Limits().Slots - len(m.Live()) - free {
			m.Alloc(api.Record{})
		}
		return m
	}
	want := in(1, "arena", 0, api.ErrFull)
	for _, c := range []struct {
		name  string
		m     *mem.Memory
		call  api.Call
		steps int
	}{
		{"Act", full(laid(t), 0), upsert("c", "new"), 2 + 4 + 1 + 1},
		{"Act", full(laid(t), 0), remove("c"), 2 + 4 + 1 + 1},
		{"Act of none", full(laid(t), 0), insert("cc", "new"), 2 + 4 + 1 + 1},
		{"Post", full(behindSplit(t), 0), upsert("d", "new"), 2 + 2 + 3 + 1 + 1},
		{"Tidy", full(longChain(t), 0), upsert("d", "new"), 2 + 2 + 6 + 1 + 1},
		{"Split", full(crowded(t), 0), upsert("d", "new"), 2 + 4 + 3 + 1},
		{"Split", full(crowded(t), 1), upsert("d", "new"), 2 + 4 + 4 + 2 + 1},
		{"Hold", full(hollow(t), 0), upsert("d", "new"), 2 + 4 + 1 + 1},
		{"Help", full(heldLeaf(t), 0), upsert("d", "new"), 2 + 3 + 3 + 1},
		{"Help", full(heldLeaf(t), 1), upsert("d", "new"), 2 + 3 + 4 + 2 + 1 + 1},
		{"Help", full(heldLeaf(t), 2), upsert("d", "new"), 2 + 3 + 8 + 1 + 1},
	} {
		rows, _ := tree.Scan(c.m)
		live, pages := len(c.m.Live()), len(c.m.Pages())
		x := starts(t, 1, c.call)
		fails(t, c.name, c.m, x, c.steps, want)
		binned(t, c.name, x)
		if after, err := tree.Scan(c.m); err != nil || !reflect.DeepEqual(after, rows) {
			t.Errorf("%s: %v, %v", c.name, after, err)
		}
		if c.name != "Help" && (len(c.m.Live()) != live || len(c.m.Pages()) != pages) {
			t.Errorf("%s: %d live slots and %d pages, of %d and %d", c.name, len(c.m.Live()), len(c.m.Pages()), live, pages)
		}
	}
	m := laid(t) // no page for the right half of a leaf
	replace(t, m, 2, leaf.Base(leaf.View{Low: "c", High: "e", Right: 3, Rows: []api.Row{{Key: "c"}, {Key: "c1"}, {Key: "c2"}, {Key: "c3"}, {Key: "d"}}}))
	for range 5 {
		m.Take()
	}
	fails(t, "no page", m, starts(t, 1, upsert("d", "new")), 2+4+1+1, in(1, "table", 0, api.ErrFull))

	m = memory(t, limits()) // no pages for two halves
	replace(t, m, 0, base("", "", 0, "abcde"))
	for range 7 {
		m.Take()
	}
	fails(t, "one page", m, starts(t, 1, upsert("d", "new")), 2+2+2+1+1, in(1, "table", 0, api.ErrFull))
	if len(m.Pages()) != 8 {
		t.Error("a page is lost")
	}
}

func TestErrorsOfSwaps(t *testing.T) {
	m := laid(t)
	x := starts(t, 1, upsert("c", "new"))
	some(t, x, m, 2+4+1)
	m.Give(2)
	live := len(m.Live())
	fails(t, "a page that is free", m, x, 1+1+1, in(1, "table", 2, api.ErrNone))
	if len(m.Live()) != live-1 {
		t.Errorf("%d live slots, of %d", len(m.Live()), live)
	}
}

func TestErrorsOfTheHelper(t *testing.T) {
	m := laid(t)
	replace(t, m, 0, upper(api.Entry{Page: 0}, api.Entry{Key: "c", Page: 2}, api.Entry{Key: "e", Page: 3}))
	write(t, m, 0, api.Record{Kind: api.InnerHold, Hold: api.Hold{Page: 2, Key: "c"}})
	fails(t, "no leaf on the left", m, starts(t, 1, upsert("e", "new")), 2+3+4+3+1, by(1, api.ErrKind))
}

// After an error the bin is swept, too.
func TestAnErrorAfterSomethingWasUnlinked(t *testing.T) {
	m := heldLeaf(t)
	m.Free(head(m, 3))
	x := starts(t, 1, upsert("e", "new"))
	takes(t, "unlinked", x, m, 2+3+10+1+4+2+1+1+3+4+1)
	replies(t, "unlinked", x, api.Reply{Err: in(1, "arena", 4, api.ErrStale)})
	binned(t, "unlinked", x)
	if got := m.Pages(); !reflect.DeepEqual(got, []int{0, 1, 3}) {
		t.Error(got)
	}
}

func TestNoMemory(t *testing.T) {
	for _, make := range []func(*testing.T) *mem.Memory{laid, crowded, heldLeaf, longChain, hollow, behindSplit} {
		for ahead := 0; ; ahead++ {
			m := make(t)
			x := starts(t, 1, upsert("d", "new"))
			for range ahead {
				x.Step(m)
			}
			if !x.Pending() {
				break
			}
			was := m.Count()
			for n := 0; !x.Step(nil); n++ {
				if n > most {
					t.Fatal("the thread does not finish without a memory")
				}
			}
			if m.Count() != was {
				t.Error("an access without a memory")
			}
			r, err := x.Reply()
			if err != nil || r.Err != nil && !reflect.DeepEqual(r.Err, by(1, api.ErrArg)) {
				t.Errorf("step %d: %v, %v", ahead, r, err)
			}
		}
	}
	x := starts(t, 1, get("a"))
	if !x.Step(nil) {
		t.Error("a thread enters without a memory")
	}
	replies(t, "never a memory", x, api.Reply{Err: by(1, api.ErrArg)})
}

// The limits are those of the memory.

func TestLimits(t *testing.T) {
	for _, c := range []struct{ rows, chain int }{{2, 64}, {3, 64}, {64, 2}, {64, 3}, {5, 5}} {
		l := limits()
		l.Slots, l.Rows, l.Chain = 400, c.rows, c.chain
		m := memory(t, l)
		x := tree.NewThread(0)
		for k := range 70 {
			was := "v"
			if k < c.rows {
				was = ""
			}
			does(t, x, m, upsert("k"+strconv.Itoa(k%c.rows), "v"), was, nil)
			chain, _, _ := m.Chain(0)
			if k < c.chain && len(chain) != k+2 || len(chain) > c.chain+1 || len(m.Pages()) != 1 {
				t.Fatalf("%d rows, %d records: %q, with %d records after %d calls", c.rows, c.chain, state(m), len(chain), k+1)
			}
		}
		does(t, x, m, upsert("x", ""), "", nil)
		does(t, x, m, upsert("y", ""), "", nil)
		if len(m.Pages()) != 3 {
			t.Errorf("%d rows: %q", c.rows, state(m))
		}
	}
}
