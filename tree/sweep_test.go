package tree_test

import (
	"math"
	"reflect"
	"testing"

	"rowlock/api"
	"rowlock/epoch"
	"rowlock/mem"
	"rowlock/tree"
)

// Phase 5.

// tidied is a thread that has tidied page 2 of longChain, is still inside, and has the old chain in its bin.
func tidied(t *testing.T, m *mem.Memory, n int) *tree.Thread {
	t.Helper()
	x := starts(t, n, upsert("d", "new"))
	for len(x.Bin()) == 0 {
		x.Step(m)
	}
	return x
}

// until lets a thread go on until it has entered and left.
func until(t *testing.T, x *tree.Thread, m *mem.Memory, n int) {
	t.Helper()
	entered := false
	for range most {
		_, inside := at(m, n)
		if entered && !inside {
			return
		}
		entered = inside
		x.Step(m)
	}
	t.Fatal("the thread does not leave")
}

func TestAnEmptyBinIsNotSwept(t *testing.T) {
	m := laid(t)
	x := starts(t, 0, get("c"))
	until(t, x, m, 0)
	if x.Pending() || now(m) != 2 {
		t.Error("the clock is at", now(m))
	}
}

func TestSweepStepByStep(t *testing.T) {
	m := longChain(t)
	old := head(m, 2)
	_, refs, _ := m.Chain(2)
	x := tidied(t, m, 1)
	until(t, x, m, 1)
	item := epoch.Item{Stamp: 2, Chain: old, Page: -1}
	binned(t, "ahead of Bump", x, item)
	some(t, x, m, 1)
	if now(m) != 3 {
		t.Error("the clock is at", now(m))
	}
	binned(t, "ahead of At", x, item)
	some(t, x, m, 2)
	binned(t, "ahead of At of thread 2", x, item)
	live := len(m.Live())
	some(t, x, m, 1)
	binned(t, "after At", x)
	for k, r := range refs {
		if _, err := m.Copy().Load(r); err != nil || len(m.Live()) != live-k {
			t.Errorf("record %d: %v, %d live slots", k, err, len(m.Live()))
		}
		some(t, x, m, 1)
		if len(m.Live()) != live-k {
			t.Errorf("record %d is freed with its load", k)
		}
		if finished := x.Step(m); finished != (k == len(refs)-1) || len(m.Live()) != live-k-1 {
			t.Errorf("record %d: %v, %d live slots", k, finished, len(m.Live()))
		}
		if _, err := m.Copy().Load(r); err == nil {
			t.Errorf("record %d is not freed", k)
		}
	}
	replies(t, "a sweep", x, api.Reply{Value: "d"})
}

func TestAPageIsGivenBack(t *testing.T) {
	m := heldLeaf(t)
	x := starts(t, 0, upsert("x", "new"))
	until(t, x, m, 0)
	binned(t, "a page", x, epoch.Item{Stamp: 2, Chain: head(m, 2), Page: 2})
	some(t, x, m, 1+3+4)
	if _, err := m.Copy().Head(2); err != nil {
		t.Error("the page is given back early:", err)
	}
	if !x.Step(m) {
		t.Error("there is more")
	}
	if _, err := m.Copy().Head(2); err == nil {
		t.Error("the page is not given back")
	}
}

// What was unlinked stays as long as somebody is inside who may have seen it.
func TestAnItemThatIsNotRipe(t *testing.T) {
	m := longChain(t)
	other := starts(t, 2, get("c"))
	some(t, other, m, 2+3)
	x := tidied(t, m, 0)
	bin := x.Bin()
	until(t, x, m, 0)
	takes(t, "somebody is inside", x, m, 1+3)
	binned(t, "somebody is inside", x, bin...)
	replies(t, "somebody is inside", x, api.Reply{Value: "d"})
	live := len(m.Live())
	takes(t, "who is inside", other, m, 5+1) // the records that it loads are still there
	replies(t, "who is inside", other, api.Reply{Value: "3"})

	begins(t, x, get("d"))
	until(t, x, m, 0)
	binned(t, "nobody is inside", x, bin...)
	takes(t, "nobody is inside", x, m, 1+3+10)
	binned(t, "nobody is inside", x)
	if len(m.Live()) != live-5 {
		t.Errorf("%d live slots, of %d", len(m.Live()), live)
	}
}

// An item is ripe if its stamp is below the least number: that of Bump, or the one at which a thread is inside.
func TestWhatIsRipe(t *testing.T) {
	for _, c := range []struct {
		bumps  int         // ahead of the sweep
		inside map[int]int // threads, at numbers
		ripe   bool
	}{
		{0, nil, true}, {5, nil, true},
		{0, map[int]int{0: 2}, false}, {0, map[int]int{1: 2}, false}, {0, map[int]int{2: 2}, false}, {0, map[int]int{2: 1}, false},
		{1, map[int]int{0: 3}, true}, {1, map[int]int{0: 3, 1: 3, 2: 3}, true}, {1, map[int]int{0: 3, 1: 3, 2: 2}, false},
		{1, map[int]int{0: 2, 1: 3, 2: 3}, false}, {1, map[int]int{0: 1, 1: 3, 2: 3}, false},
	} {
		m := longChain(t)
		x := tidied(t, m, 1)
		until(t, x, m, 1)
		for range c.bumps {
			m.Bump()
		}
		for n, at := range c.inside {
			if err := m.Enter(n, at); err != nil {
				t.Fatal(err)
			}
		}
		steps(t, x, m)
		if ripe := len(x.Bin()) == 0; ripe != c.ripe {
			t.Errorf("%d bumps, inside %v: ripe is %v", c.bumps, c.inside, ripe)
		}
	}
}

func TestTheOldestOneCounts(t *testing.T) {
	m := longChain(t)
	x := tidied(t, m, 1)
	until(t, x, m, 1)
	some(t, x, m, 1)
	m.Bump()
	m.Enter(0, 4) // above what Bump returned
	m.Enter(2, 3)
	steps(t, x, m)
	binned(t, "what Bump returned counts", x)

	m = longChain(t) // who enters after it was asked does not count
	x = tidied(t, m, 1)
	until(t, x, m, 1)
	some(t, x, m, 2)
	m.Enter(0, 1)
	steps(t, x, m)
	binned(t, "who was asked ahead of that", x)
}

// At the end of the clock a sweep still counts with its number.
func TestSweepAtTheEndOfTheClock(t *testing.T) {
	m := longChain(t)
	x := tidied(t, m, 1)
	until(t, x, m, 1)
	for _, err := m.Bump(); err == nil; _, err = m.Bump() {
	}
	takes(t, "at the end", x, m, 1+3+10)
	binned(t, "at the end", x)
	replies(t, "at the end", x, api.Reply{Value: "d"})

	l := limits() // an item whose stamp is the last number is never ripe
	l.Count = 8
	m = laidIn(t, l)
	for range 4 {
		write(t, m, 2, api.Record{Kind: api.LeafPut, Key: "c", Value: "3"})
	}
	for now(m) < 7 {
		m.Bump()
	}
	x = tidied(t, m, 1)
	bin := x.Bin()
	steps(t, x, m)
	binned(t, "stamped at the end", x, bin...)
	sweeps(t, x, m)
	binned(t, "stamped at the end", x, bin...)
	replies(t, "stamped at the end", x, api.Reply{Value: "d"})
}

func TestSeveralItems(t *testing.T) {
	m := longChain(t)
	other := starts(t, 2, get("c"))
	some(t, other, m, 2)
	x := tidied(t, m, 0)
	steps(t, x, m)
	for range 4 {
		begins(t, x, upsert("d", "new"))
		steps(t, x, m)
	}
	bin := x.Bin()
	if len(bin) != 2 || bin[0].Stamp >= bin[1].Stamp {
		t.Fatal(bin)
	}
	steps(t, other, m)
	x.Sweep()
	some(t, x, m, 1)
	m.Enter(1, bin[1].Stamp)
	takes(t, "the first one is ripe", x, m, 3+10)
	binned(t, "the first one is ripe", x, bin[1])
	m.Leave(1)
	sweeps(t, x, m)
	binned(t, "both are ripe", x)
}

// The items are reclaimed in order, and their records from the head on.
func TestTheOrderOfItems(t *testing.T) {
	m := longChain(t)
	write(t, m, 0, api.Record{Kind: api.InnerHold, Hold: api.Hold{Page: 3, Left: 2, Key: "e"}})
	m.Enter(2, 1)
	x := starts(t, 0, upsert("d", "new"))
	steps(t, x, m)
	bin := x.Bin()
	if len(bin) != 2 || bin[0].Page != 3 || bin[1].Page != -1 {
		t.Fatal(bin)
	}
	m.Leave(2)
	x.Sweep()
	some(t, x, m, 1+3)
	var want []api.Ref
	for _, i := range bin {
		for r := i.Chain; r != (api.Ref{}); {
			want = append(want, r)
			x, err := m.Copy().Load(r)
			if err != nil {
				t.Fatal(err)
			}
			r = x.Next
		}
	}
	var got []api.Ref
	pages := 0
	for x.Pending() {
		was, used := m.Live(), len(m.Pages())
		x.Step(m)
		if len(m.Live()) < len(was) {
			got = append(got, lost(was, m.Live()))
		}
		if len(m.Pages()) < used {
			pages = len(got)
		}
	}
	if !reflect.DeepEqual(got, want) || pages != 2 {
		t.Errorf("%v, with a page after %d, not %v", got, pages, want)
	}
}

// lost is the first ref that is there no more.
func lost(was, is []api.Ref) api.Ref {
	for k, r := range was {
		if k == len(is) || is[k] != r {
			return r
		}
	}
	return api.Ref{}
}

func TestARecordThatCannotBeLoadedEndsItsChain(t *testing.T) {
	for _, c := range []struct{ record, steps int }{{0, 1 + 1}, {1, 3 + 1}} {
		m := heldLeaf(t)
		x := starts(t, 0, upsert("x", "new"))
		until(t, x, m, 0)
		_, refs, _ := m.Chain(2)
		m.Free(refs[c.record])
		takes(t, "a record that is free", x, m, 1+3+c.steps)
		binned(t, "a record that is free", x)
		if _, err := m.Copy().Head(2); err == nil {
			t.Error("the page is not given back")
		}
		if live := len(m.Live()); live != len(refsOf(m))+1-c.record {
			t.Errorf("%d live slots, of %d", live, len(refsOf(m)))
		}
		replies(t, "a record that is free", x, api.Reply{})
	}
	m := heldLeaf(t) // a page that is free already
	x := starts(t, 0, upsert("x", "new"))
	until(t, x, m, 0)
	m.Give(2)
	takes(t, "a page that is free", x, m, 1+3+4+1)
	replies(t, "a page that is free", x, api.Reply{})
}

// refsOf are the refs of all pages' chains.
func refsOf(m *mem.Memory) []api.Ref {
	var all []api.Ref
	for _, n := range m.Pages() {
		_, refs, _ := m.Chain(n)
		all = append(all, refs...)
	}
	return all
}

func TestLeaveThatIsNone(t *testing.T) {
	m := laid(t)
	x := starts(t, 0, get("c"))
	some(t, x, m, 2+4)
	m.Leave(0)
	takes(t, "outside already", x, m, 1)
	replies(t, "outside already", x, api.Reply{Value: "c"})
}

// P14.1: Sweep.

func TestSweepOfAnEmptyBin(t *testing.T) {
	m := laid(t)
	was := state(m)
	x := tree.NewThread(1)
	for range 3 {
		at := now(m)
		x.Sweep()
		busy(t, "a sweep", x)
		takes(t, "an empty bin", x, m, 1+3)
		if now(m) != at+1 {
			t.Error("the clock is at", now(m))
		}
	}
	holds(t, "an empty bin", m, was)
	for _, threads := range []int{1, 2, 64} {
		l := limits()
		l.Threads = threads
		x.Sweep()
		takes(t, "threads", x, memory(t, l), 1+threads)
	}
	for _, n := range []int{-1, 7, math.MaxInt} { // a thread that there is not may sweep
		x = tree.NewThread(n)
		x.Sweep()
		takes(t, "no such thread", x, m, 1+3)
	}
}

func TestSweepOfABin(t *testing.T) {
	m := longChain(t)
	other := starts(t, 2, get("c"))
	some(t, other, m, 2)
	x := tidied(t, m, 0)
	steps(t, x, m)
	bin := x.Bin()
	sweeps(t, x, m)
	binned(t, "somebody is inside", x, bin...)
	steps(t, other, m)
	x.Sweep()
	takes(t, "nobody is inside", x, m, 1+3+10)
	binned(t, "nobody is inside", x)
	x.Sweep()
	takes(t, "an empty bin", x, m, 1+3)
	replies(t, "a sweep", x, api.Reply{Value: "d"})
}

func TestSweepWithoutAMemory(t *testing.T) {
	m := longChain(t)
	x := tidied(t, m, 0)
	until(t, x, m, 0)
	bin := x.Bin()
	y := *x
	if !x.Step(nil) {
		t.Error("there are no threads to be asked")
	}
	binned(t, "never a memory", x, bin...)
	some(t, &y, m, 4)
	binned(t, "ripe", &y)
	for n := 0; !y.Step(nil); n++ {
		if n > 2 {
			t.Fatal("the sweep does not finish")
		}
	}
}

// Example 5 of the whole.

func TestAThreadThatStopsInside(t *testing.T) {
	l := limits()
	l.Slots = 30
	m := memory(t, l)
	other := starts(t, 2, get("a"))
	some(t, other, m, 2)
	x := tree.NewThread(0)
	rows := map[string]string{}
	full := 0
	for k := range 60 {
		c := upsert(string(rune('a'+k%7)), string(rune('A'+k%26)))
		begins(t, x, c)
		steps(t, x, m)
		r, _ := x.Reply()
		if r.Err == nil {
			rows[c.Key] = c.Value
			continue
		}
		full++
		if !reflect.DeepEqual(r.Err, in(0, "arena", 0, api.ErrFull)) {
			t.Fatal(r.Err)
		}
	}
	got, err := tree.Scan(m)
	if err != nil || len(got) != len(rows) || full == 0 {
		t.Fatalf("%v, %v, and %d times no slot", got, err, full)
	}
	for _, r := range got {
		if rows[r.Key] != r.Value {
			t.Errorf("%v, not %q", r, rows[r.Key])
		}
	}
	steps(t, other, m) // with the thread outside there is space again
	sweeps(t, x, m)
	binned(t, "outside", x)
	does(t, x, m, upsert("a", "new"), rows["a"], nil)
}
