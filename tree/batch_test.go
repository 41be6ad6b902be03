package tree_test

import (
	"reflect"
	"strings"
	"testing"

	"rowlock/api"
	"rowlock/bkey"
	"rowlock/mem"
	"rowlock/tree"
)

// span is one from low up to high, or without an end if high is "".
func span(low, high string) bkey.Span {
	return bkey.Span{Low: low, High: high, Unbounded: high == ""}
}

// batch is a thread with a pending batch.
func batch(t *testing.T, n int, s bkey.Span, reverse bool) *tree.Thread {
	t.Helper()
	x := tree.NewThread(n)
	if err := x.StartBatch(s, reverse); err != nil || !x.Pending() {
		t.Fatalf("StartBatch of %v: %v, and Pending is %v", s, err, x.Pending())
	}
	return x
}

// returns asks for a batch that has finished.
func returns(t *testing.T, name string, x *tree.Thread, want tree.Batch) {
	t.Helper()
	b, err := x.Batch()
	if len(b.Rows) == 0 && len(want.Rows) == 0 {
		b.Rows, want.Rows = nil, nil
	}
	if x.Pending() || err != nil || !reflect.DeepEqual(b, want) {
		t.Errorf("%s: Pending is %v, and Batch %+v, %v, not %+v", name, x.Pending(), b, err, want)
	}
}

// backward are rows from the last one on.
func backward(l []api.Row) []api.Row {
	var made []api.Row
	for k := range l {
		made = append(made, l[len(l)-1-k])
	}
	return made
}

// P14.2: which batches can be requested.

func TestSpansOfBatches(t *testing.T) {
	long := strings.Repeat("k", 16)
	for _, c := range []struct {
		span bkey.Span
		want bool
	}{
		{bkey.Span{Unbounded: true}, true}, {bkey.Span{Low: "a", Unbounded: true}, true}, {bkey.Span{Low: "a", High: "b"}, true}, {bkey.Span{High: "b"}, true},
		{bkey.Span{High: "\x00"}, true}, {bkey.Span{Low: "a", High: "a\x00"}, true},
		{bkey.Span{}, false}, {bkey.Span{Low: "a"}, false}, {bkey.Span{Low: "a", High: "a"}, false}, {bkey.Span{Low: "b", High: "a"}, false},
		{bkey.Span{Low: "a\x00", High: "a"}, false},
		{bkey.Span{Low: "b", High: "a", Unbounded: true}, false}, {bkey.Span{Low: "a", High: "b", Unbounded: true}, false}, {bkey.Span{High: "a", Unbounded: true}, false},
		{bkey.Span{Low: long, Unbounded: true}, true}, {bkey.Span{Low: "a", High: long}, true}, {bkey.Span{Low: long, High: "l"}, true},
		{bkey.Span{Low: long + "k", Unbounded: true}, false}, {bkey.Span{Low: "a", High: long + "k"}, false}, {bkey.Span{Low: long + "k", High: "l"}, false},
		{bkey.Span{Low: long, High: long + "k"}, false}, {bkey.Span{Low: strings.Repeat(long, 99), High: "l"}, false},
	} {
		for _, reverse := range []bool{false, true} {
			x := tree.NewThread(0)
			err := x.StartBatch(c.span, reverse)
			if c.want && err != nil || !c.want && err != error(api.ErrArg) || x.Pending() != c.want {
				t.Errorf("StartBatch of %+v: %v, and Pending is %v", c.span, err, x.Pending())
			}
			if _, err := x.Batch(); !c.want && err != error(api.ErrState) {
				t.Errorf("StartBatch of %+v leaves a batch: %v", c.span, err)
			}
		}
	}
}

// P14.2: what a batch returns.

func TestBatches(t *testing.T) {
	for _, c := range []struct {
		span bkey.Span
		rows string
		rest bkey.Span // the zero one if it has ended
	}{
		{span("", ""), "ab", span("c", "")},
		{span("a", ""), "ab", span("c", "")},
		{span("b", ""), "b", span("c", "")},
		{span("bb", ""), "", span("c", "")},
		{span("c", ""), "cd", span("e", "")},
		{span("d", "z"), "d", span("e", "z")},
		{span("d", "ee"), "d", span("e", "ee")},
		{span("d", "e\x00"), "d", span("e", "e\x00")},
		{span("d", "e"), "d", bkey.Span{}}, // its High is the span's High
		{span("c", "d"), "c", bkey.Span{}},
		{span("c", "dd"), "cd", bkey.Span{}},
		{span("cc", "d"), "", bkey.Span{}},
		{span("", "a"), "", bkey.Span{}},
		{span("", "b"), "a", bkey.Span{}},
		{span("a", "z"), "ab", span("c", "z")},
		{span("e", ""), "ef", bkey.Span{}}, // it is Unbounded
		{span("e", "f"), "e", bkey.Span{}},
		{span("f", "z"), "f", bkey.Span{}},
		{span("z", ""), "", bkey.Span{}},
	} {
		m := laid(t)
		was := state(m)
		x := batch(t, 1, c.span, false)
		takes(t, "a batch", x, m, 2+4+1)
		returns(t, "a batch of "+c.span.Low+" to "+c.span.High, x, tree.Batch{Rows: list(c.rows), Rest: c.rest, Ended: c.rest == bkey.Span{}})
		holds(t, "a batch", m, was)
		if _, inside := at(m, 1); inside {
			t.Error("the thread is inside")
		}
	}
}

func TestReversedBatches(t *testing.T) {
	for _, c := range []struct {
		span bkey.Span
		rows string
		rest bkey.Span // the zero one if it has ended
	}{
		{span("", ""), "fe", span("", "e")},
		{span("a", ""), "fe", span("a", "e")},
		{span("e", ""), "fe", bkey.Span{}}, // its Low is the span's Low
		{span("d", ""), "fe", span("d", "e")},
		{span("f", ""), "f", bkey.Span{}},
		{span("d\xff", ""), "fe", span("d\xff", "e")},
		{span("", "z"), "fe", span("", "e")},
		{span("", "ee"), "e", span("", "e")},
		{span("", "e\x00"), "e", span("", "e")},
		{span("", "e"), "dc", span("", "c")}, // e is in the next leaf
		{span("", "d"), "c", span("", "c")},
		{span("c", "d"), "c", bkey.Span{}},
		{span("b", "d"), "c", span("b", "c")},
		{span("b", "cc"), "c", span("b", "c")},
		{span("cc", "d"), "", bkey.Span{}},
		{span("", "c"), "ba", bkey.Span{}}, // its Low is ""
		{span("", "a"), "", bkey.Span{}},
		{span("a", "b"), "a", bkey.Span{}},
		{span("zz", ""), "", bkey.Span{}},
	} {
		m := laid(t)
		was := state(m)
		x := batch(t, 1, c.span, true)
		takes(t, "a batch", x, m, 2+4+1)
		returns(t, "a reversed batch of "+c.span.Low+" to "+c.span.High, x, tree.Batch{Rows: list(c.rows), Rest: c.rest, Ended: c.rest == bkey.Span{}})
		holds(t, "a reversed batch", m, was)
	}
}

func TestABatchOfANewTree(t *testing.T) {
	for _, reverse := range []bool{false, true} {
		m := memory(t, limits())
		x := batch(t, 0, span("", ""), reverse)
		takes(t, "a new tree", x, m, 5)
		returns(t, "a new tree", x, tree.Batch{Ended: true})
		does(t, x, m, upsert("a", "1"), "", nil)
		x.StartBatch(span("", "z"), reverse)
		steps(t, x, m)
		returns(t, "one row", x, tree.Batch{Rows: []api.Row{{Key: "a", Value: "1"}}, Ended: true})
	}
}

// From batch to batch all rows are returned.
func TestBatchesOneAfterTheOther(t *testing.T) {
	l := limits()
	l.Rows, l.Chain, l.Slots, l.Pages = 2, 2, 200, 60
	m := memory(t, l)
	x := tree.NewThread(0)
	const alphabet = "abcdefghijklmnopqrstuvwxyz"
	for _, r := range list("mbzaqwetyuioplkjhgfdsxcvnr") {
		does(t, x, m, insert(r.Key, r.Value), "", nil)
	}
	for _, c := range []struct{ span, want string }{{"", alphabet}, {"-m", alphabet[:12]}, {"m", alphabet[12:]}, {"f-t", alphabet[5:19]}, {"aa-z", alphabet[1:25]}} {
		low, high, _ := strings.Cut(c.span, "-")
		for _, reverse := range []bool{false, true} {
			var got []api.Row
			batches := 0
			for s := span(low, high); ; batches++ {
				if err := x.StartBatch(s, reverse); err != nil {
					t.Fatal(err)
				}
				steps(t, x, m)
				b, err := x.Batch()
				if err != nil || b.Err != nil {
					t.Fatal(err, b.Err)
				}
				got = append(got, b.Rows...)
				if b.Ended {
					break
				}
				s = b.Rest
			}
			want := list(c.want)
			if reverse {
				want = backward(want)
			}
			if !reflect.DeepEqual(got, want) || batches < 5 {
				t.Errorf("%q, reversed is %v: %v in %d batches", c.span, reverse, got, batches)
			}
		}
	}
}

// P14.2: the walk of a batch.

func TestABatchGoesAcross(t *testing.T) {
	m := behindSplit(t)
	was := state(m)
	x := batch(t, 0, span("d", ""), false)
	takes(t, "forward", x, m, 2+2+3+2+1)
	returns(t, "forward", x, tree.Batch{Rows: list("d"), Rest: span("e", "")})

	x = batch(t, 0, span("", "e"), true) // page 2 ends at d, and page 4 has what is before e
	takes(t, "backward", x, m, 2+2+3+2+1)
	returns(t, "backward", x, tree.Batch{Rows: list("d"), Rest: span("", "d")})

	x = batch(t, 0, span("", "d"), true) // page 2 does not end before d
	takes(t, "backward up to d", x, m, 2+2+3+1)
	returns(t, "backward up to d", x, tree.Batch{Rows: list("c"), Rest: span("", "c")})
	holds(t, "batches", m, was)
}

func TestABatchChangesNothing(t *testing.T) {
	for _, make := range []func(*testing.T) *mem.Memory{laid, crowded, heldLeaf, longChain, hollow, behindSplit} {
		for _, reverse := range []bool{false, true} {
			m := make(t)
			was := m.Live()
			for _, s := range []bkey.Span{span("", ""), span("c", "d"), span("d", "e"), span("c", "")} {
				x := batch(t, 0, s, reverse)
				steps(t, x, m)
				if b, err := x.Batch(); err != nil || b.Err != nil {
					t.Error(b, err)
				}
				binned(t, "a batch", x)
			}
			if !reflect.DeepEqual(m.Live(), was) {
				t.Errorf("a batch changes %q", state(m))
			}
		}
	}
}

// From a page that is gone on, a batch helps as a Get does.
func TestABatchHelpsFromAPageThatIsGoneOn(t *testing.T) {
	for _, c := range []struct {
		span    bkey.Span
		reverse bool
		want    tree.Batch
	}{
		{span("d", ""), false, tree.Batch{Rows: list("d"), Rest: span("e", "")}},
		{span("", "d"), true, tree.Batch{Rows: list("cba"), Ended: true}},
	} {
		m := heldLeaf(t)
		write(t, m, 2, api.Record{Kind: api.LeafRemove})
		x := batch(t, 0, c.span, c.reverse)
		some(t, x, m, 2+3+3)
		holds(t, "gone", m, "0=1c2e3! 1=ab 2=cd! 3=ef")
		some(t, x, m, 3+3+4+2+1)
		holds(t, "helped", m, "0=1e3 1=abcd 2=cd! 3=ef")
		if len(x.Bin()) != 1 || x.Bin()[0].Page != 2 {
			t.Error(x.Bin())
		}
		steps(t, x, m)
		returns(t, "helped", x, c.want)
		holds(t, "swept", m, "0=1e3 1=abcd 3=ef")
	}
}

// A reversed batch that helps changes nothing else.
func TestAReversedBatchOnlyHelps(t *testing.T) {
	m := laid(t)
	write(t, m, 2, api.Record{Kind: api.LeafRemove})
	x := batch(t, 0, span("", "e"), true)
	some(t, x, m, 2+2+3)
	top := upper(api.Entry{Page: 1}, api.Entry{Key: "c", Page: 1}, api.Entry{Key: "e", Page: 3}, api.Entry{Key: "x", Page: 3}, api.Entry{Key: "y", Page: 3})
	replace(t, m, 0, top)
	replace(t, m, 1, base("", "e", 3, "abcd"))
	for range 4 {
		write(t, m, 1, api.Record{Kind: api.LeafPut, Key: "c", Value: "c"})
	}
	takes(t, "five entries and five records", x, m, 2+6+1)
	returns(t, "five entries and five records", x, tree.Batch{Rows: list("dcba"), Ended: true})
	records(t, "five entries", m, 0, top)

	m = longChain(t)
	write(t, m, 2, api.Record{Kind: api.LeafRemove})
	x = batch(t, 0, span("", "d"), true)
	some(t, x, m, 2+2+7)
	some(t, x, m, 2+7)
	if chain, _, _ := m.Chain(2); len(chain) != 6 || len(x.Bin()) != 0 {
		t.Error("a reversed batch changes a page that is gone")
	}
}

// A batch that is not reversed tidies up, and more, after a page that was gone.
func TestABatchChangesWhatIsInItsWay(t *testing.T) {
	m := laid(t)
	write(t, m, 2, api.Record{Kind: api.LeafRemove})
	x := batch(t, 0, span("d", ""), false)
	some(t, x, m, 2+2+3)
	replace(t, m, 0, upper(api.Entry{Page: 1}, api.Entry{Key: "c", Page: 2}, api.Entry{Key: "e", Page: 3}, api.Entry{Key: "x", Page: 3}, api.Entry{Key: "y", Page: 3}))
	some(t, x, m, 2+8+1)
	holds(t, "Grow by a batch", m, "0=4e5 1=ab 2=cd! 3=ef 4=1c2 5=e3x3y3")
}

func TestAReversedBatchAgainAtAnInnerPage(t *testing.T) {
	m := laid(t)
	n := add(t, m, api.Record{Kind: api.InnerBase, Low: "e", Unbounded: true, Entries: []api.Entry{{Key: "e", Page: 3}}})
	replace(t, m, 0, upper(api.Entry{Page: n}))
	x := batch(t, 0, span("", "d"), true)
	some(t, x, m, 2+4*3)
	replace(t, m, 0, upper(api.Entry{Page: 1}, api.Entry{Key: "c", Page: 2}, api.Entry{Key: "e", Page: 3}))
	write(t, m, 0, api.Record{Kind: api.InnerHold, Hold: middle()})
	takes(t, "no help", x, m, 3+2+1)
	returns(t, "no help", x, tree.Batch{Rows: list("c"), Rest: span("", "c")})
}

// P14.2: errors.

func TestErrorsOfBatches(t *testing.T) {
	for _, reverse := range []bool{false, true} {
		m := laid(t)
		x := batch(t, 5, span("", ""), reverse)
		takes(t, "no such thread", x, m, 2)
		returns(t, "no such thread", x, tree.Batch{Err: in(5, "clock", 5, api.ErrArg)})

		m.Give(2)
		x = batch(t, 1, span("c", "d"), reverse)
		takes(t, "a page that is free", x, m, 2+3+1)
		returns(t, "a page that is free", x, tree.Batch{Err: in(1, "table", 2, api.ErrNone)})
		if _, inside := at(m, 1); inside {
			t.Error("the thread is inside")
		}
		if _, err := x.Reply(); err != error(api.ErrState) {
			t.Error("the error of a batch becomes that of a reply:", err)
		}

		x = batch(t, 1, span("a", "b"), reverse) // the error of one batch is not that of the next one
		steps(t, x, m)
		x.StartBatch(span("c", "d"), reverse)
		steps(t, x, m)
		returns(t, "a page that is free", x, tree.Batch{Err: in(1, "table", 2, api.ErrNone)})
		x.StartBatch(span("a", "b"), reverse)
		steps(t, x, m)
		returns(t, "then", x, tree.Batch{Rows: list("a"), Ended: true})

		for _, err := m.Bump(); err == nil; _, err = m.Bump() {
		}
		x.StartBatch(span("a", "b"), reverse)
		takes(t, "the clock at its end", x, m, 1)
		returns(t, "the clock at its end", x, tree.Batch{Err: in(1, "clock", 0, api.ErrExhausted)})

		m = heldLeaf(t)
		write(t, m, 2, api.Record{Kind: api.LeafRemove})
		for range m.Limits().Slots - len(m.Live()) {
			m.Alloc(api.Record{})
		}
		x = batch(t, 1, span("c", "d"), reverse)
		steps(t, x, m)
		returns(t, "no slot", x, tree.Batch{Err: in(1, "arena", 0, api.ErrFull)})
		x = batch(t, 1, span("c", "d"), reverse)
		for !x.Step(nil) {
		}
		returns(t, "no memory", x, tree.Batch{Err: by(1, api.ErrArg)})
	}
}

// A batch sweeps the bin, too.
func TestABatchSweeps(t *testing.T) {
	m := longChain(t)
	x := tidied(t, m, 0)
	m.Enter(1, 1)
	steps(t, x, m)
	m.Leave(1)
	x.StartBatch(span("a", ""), false)
	takes(t, "a batch", x, m, 2+4+1+1+3+10)
	binned(t, "a batch", x)
	returns(t, "a batch", x, tree.Batch{Rows: list("ab"), Rest: span("c", "")})
	replies(t, "a batch", x, api.Reply{Value: "d"})
}
