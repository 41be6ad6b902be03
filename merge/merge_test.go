package merge_test

import (
	"errors"
	"math"
	"reflect"
	"strconv"
	"strings"
	"testing"

	"rowlock/api"
	"rowlock/install"
	"rowlock/leaf"
	"rowlock/mem"
	"rowlock/merge"
	"rowlock/page"
)

func ref(slot, gen int) api.Ref { return api.Ref{Slot: slot, Gen: gen} }

// memory is a new memory of so many slots.
func memory(t *testing.T, slots int) *mem.Memory {
	t.Helper()
	m, err := mem.New(api.Limits{Slots: slots, Pages: 9, Threads: 1, Rows: 4, Chain: 4, Count: 99})
	if err != nil {
		t.Fatal(err)
	}
	return m
}

// list is a row for each byte of a text, which is its value, too.
func list(keys string) []api.Row {
	var l []api.Row
	for _, c := range strings.Split(keys, "") {
		if c != "" {
			l = append(l, api.Row{Key: c, Value: c})
		}
	}
	return l
}

// base is a leaf from low up to high, or without an end if high is "".
func base(low, high string, right int, keys string) api.Record {
	return api.Record{Kind: api.LeafBase, Low: low, High: high, Unbounded: high == "", Right: right, Rows: list(keys)}
}

// write puts a record in front of a page, and returns its ref.
func write(t *testing.T, m *mem.Memory, n int, r api.Record) api.Ref {
	t.Helper()
	old, err := m.Head(n)
	if err != nil {
		t.Fatal(err)
	}
	r.Next = old
	x, err := m.Alloc(r)
	if ok, e := m.Swap(n, old, x); err != nil || !ok || e != nil {
		t.Fatal(err, ok, e)
	}
	return x
}

// add makes a new page of a record.
func add(t *testing.T, m *mem.Memory, r api.Record) int {
	t.Helper()
	n, err := m.Take()
	if err != nil {
		t.Fatal(err)
	}
	write(t, m, n, r)
	return n
}

// top makes page 0 an inner page with leaves from those keys on.
func top(t *testing.T, m *mem.Memory, entries ...api.Entry) {
	t.Helper()
	old, _ := m.Head(0)
	x, err := m.Alloc(api.Record{Kind: api.InnerBase, Unbounded: true, Entries: entries})
	if ok, e := m.Swap(0, old, x); err != nil || !ok || e != nil || m.Free(old) != nil {
		t.Fatal(err, ok, e)
	}
}

// laid is a memory with leaves a b, c d, and e f, of pages 1 to 3 below page 0: slots 2 to 4, with the inner page in slot 5.
func laid(t *testing.T, slots int) *mem.Memory {
	t.Helper()
	m := memory(t, slots)
	add(t, m, base("", "c", 2, "ab"))
	add(t, m, base("c", "e", 3, "cd"))
	add(t, m, base("e", "", 0, "ef"))
	top(t, m, api.Entry{Page: 1}, api.Entry{Key: "c", Page: 2}, api.Entry{Key: "e", Page: 3})
	return m
}

// middle is the hold of page 2.
func middle() api.Hold { return api.Hold{Page: 2, Left: 1, Key: "c"} }

// elsewhere is the hold of page 2 with another page on the left.
func elsewhere(left int) api.Hold { return api.Hold{Page: 2, Left: left, Key: "c"} }

// last is the hold of page 3.
func last() api.Hold { return api.Hold{Page: 3, Left: 2, Key: "e"} }

// held puts a hold on page 0, and returns a helper that does it.
func held(t *testing.T, m *mem.Memory, h api.Hold) *merge.Helper {
	t.Helper()
	return merge.Begin(0, write(t, m, 0, api.Record{Kind: api.InnerHold, Hold: h}), h)
}

// keys are the rows of a leaf in a few words: its keys, with a ! if it is gone.
func keys(m *mem.Memory, n int) string {
	chain, _, err := m.Chain(n)
	if err != nil {
		return err.Error()
	}
	v, err := leaf.Fold(chain)
	if err != nil {
		return err.Error()
	}
	var text strings.Builder
	for _, r := range v.Rows {
		text.WriteString(r.Key)
	}
	if v.Gone {
		text.WriteString("!")
	}
	return text.String()
}

// entries are those of page 0 in a few words, with a ! if it is held.
func entries(m *mem.Memory) string {
	chain, refs, _ := m.Chain(0)
	p, err := page.Of(0, api.Ref{}, chain, refs)
	if err != nil {
		return err.Error()
	}
	var text strings.Builder
	for _, e := range p.Inner.Entries {
		text.WriteString(e.Key + strconv.Itoa(e.Page))
	}
	if p.Inner.Held {
		text.WriteString("!")
	}
	return text.String()
}

// state is a memory in a few words: the entries of page 0, and the rows of the other pages.
func state(m *mem.Memory) string {
	words := []string{entries(m)}
	for _, n := range m.Pages() {
		if n != 0 {
			words = append(words, strconv.Itoa(n)+"="+keys(m, n))
		}
	}
	return strings.Join(words, " ")
}

// holds asks how a memory is.
func holds(t *testing.T, name string, m *mem.Memory, want string) {
	t.Helper()
	if got := state(m); got != want {
		t.Errorf("%s: the memory is %q, not %q", name, got, want)
	}
}

// head is the head of a page, which is looked up in a copy, as that is no access.
func head(m *mem.Memory, n int) api.Ref {
	x, _ := m.Copy().Head(n)
	return x
}

// fill leaves so many slots free.
func fill(t *testing.T, m *mem.Memory, free int) {
	t.Helper()
	for range m.Limits().Slots - len(m.Live()) - free {
		if _, err := m.Alloc(api.Record{}); err != nil {
			t.Fatal(err)
		}
	}
}

// steps lets a helper finish, and returns how many steps this took. Each of them makes one access.
func steps(t *testing.T, x *merge.Helper, m *mem.Memory) int {
	t.Helper()
	for n := range 200 {
		if x.Over() {
			return n
		}
		was := m.Count()
		if over := x.Step(m); over != x.Over() {
			t.Fatalf("Step %d is %v, but Over %v", n, over, !over)
		}
		if m.Count() != was+1 {
			t.Fatalf("Step %d makes %d accesses", n, m.Count()-was)
		}
	}
	t.Fatal("the helper does not finish")
	return 0
}

// some makes so many steps, after which the helper has not finished.
func some(t *testing.T, x *merge.Helper, m *mem.Memory, n int) {
	t.Helper()
	for range n {
		works(t, "ahead of a step", x)
		if x.Step(m) {
			t.Fatal("the helper finishes early")
		}
	}
}

// takes asks how many steps a helper takes.
func takes(t *testing.T, name string, x *merge.Helper, m *mem.Memory, want int) {
	t.Helper()
	if n := steps(t, x, m); n != want {
		t.Errorf("%s: %d steps, not %d", name, n, want)
	}
}

// succeeds asks that a helper has put the drop.
func succeeds(t *testing.T, name string, x *merge.Helper, head api.Ref, n int) {
	t.Helper()
	if ok, err := x.Done(); !x.Over() || !ok || err != nil {
		t.Errorf("%s: Over is %v, and Done %v, %v", name, x.Over(), ok, err)
	}
	if got, gone := x.Gone(); got != head || gone != n {
		t.Errorf("%s: Gone is %v, %d, not %v, %d", name, got, gone, head, n)
	}
}

// fails asks that a helper has finished without success, with just this error.
func fails(t *testing.T, name string, x *merge.Helper, want error) {
	t.Helper()
	if ok, err := x.Done(); !x.Over() || ok || !reflect.DeepEqual(err, want) {
		t.Errorf("%s: Over is %v, and Done %v, %v, not %v", name, x.Over(), ok, err, want)
	}
	none(t, name, x)
}

// works asks that a helper has not finished.
func works(t *testing.T, name string, x *merge.Helper) {
	t.Helper()
	if ok, err := x.Done(); x.Over() || ok || err != error(api.ErrBusy) {
		t.Errorf("%s: Over is %v, and Done %v, %v", name, x.Over(), ok, err)
	}
	none(t, name, x)
}

// none asks that no page went.
func none(t *testing.T, name string, x *merge.Helper) {
	t.Helper()
	if head, n := x.Gone(); head != (api.Ref{}) || n != -1 {
		t.Errorf("%s: Gone is %v, %d", name, head, n)
	}
}

// in is a code as a memory returns it.
func in(place string, slot int, c api.Code) error {
	return &api.Fault{Place: place, Slot: slot, Err: c}
}

// records asks for the records of a page's chain.
func records(t *testing.T, name string, m *mem.Memory, n int, want ...api.Record) {
	t.Helper()
	got, _, err := m.Chain(n)
	if err != nil || !reflect.DeepEqual(got, want) {
		t.Errorf("%s: page %d is %+v, %v, not %+v", name, n, got, err, want)
	}
}

// P13.1, the accesses in order.

func TestStepByStep(t *testing.T) {
	m := laid(t, 20)
	x := held(t, m, middle())
	was := m.Count()
	const before, gone, moved = "1c2e3! 1=ab 2=cd 3=ef", "1c2e3! 1=ab 2=cd! 3=ef", "1c2e3! 1=abcd 2=cd! 3=ef"
	l := []struct {
		want string
		live int
	}{
		{before, 5}, // the head of page 2
		{before, 5}, // its record
		{before, 6}, // the remove
		{gone, 6},
		{gone, 6}, // the head of page 1
		{gone, 6}, // its record
		{gone, 7}, // the merge
		{moved, 7},
		{moved, 8}, // the drop
		{"1e3 1=abcd 2=cd! 3=ef", 8},
	}
	works(t, "at first", x)
	holds(t, "at first", m, before)
	for k, c := range l {
		works(t, "ahead of a step", x)
		if over := x.Step(m); over != (k == len(l)-1) || m.Count() != was+k+1 {
			t.Fatalf("Step %d is %v, after %d accesses", k, over, m.Count()-was)
		}
		holds(t, "step "+strconv.Itoa(k), m, c.want)
		if live := len(m.Live()); live != c.live {
			t.Errorf("step %d: %d live slots", k, live)
		}
	}
	succeeds(t, "at last", x, head(m, 2), 2)
}

// Example 1.

func TestOneLeafAndOneEntry(t *testing.T) {
	m := memory(t, 20)
	add(t, m, base("", "c", 2, "ab"))
	add(t, m, base("c", "", 0, "c"))
	top(t, m, api.Entry{Page: 1}, api.Entry{Key: "c", Page: 2})
	x := held(t, m, middle())
	takes(t, "example 1", x, m, 10)
	succeeds(t, "example 1", x, head(m, 2), 2)
	holds(t, "example 1", m, "1 1=abc 2=c!")
	if p, err := loaded(m, 1); err != nil || !p.Rows.Unbounded || p.Rows.Right != 0 {
		t.Errorf("%+v, %v", p, err)
	}
}

// loaded is a page, as it is in a copy.
func loaded(m *mem.Memory, n int) (page.Page, error) {
	chain, refs, err := m.Chain(n)
	if err != nil {
		return page.Page{}, err
	}
	return page.Of(n, head(m, n), chain, refs)
}

func TestRecordsThatArePut(t *testing.T) {
	m := laid(t, 20)
	one, two := head(m, 1), head(m, 2)
	x := held(t, m, middle())
	above := head(m, 0)
	steps(t, x, m)
	records(t, "the page that goes", m, 2, api.Record{Kind: api.LeafRemove, Next: two}, base("c", "e", 3, "cd"))
	records(t, "the left page", m, 1, api.Record{Kind: api.LeafMerge, Key: "c", High: "e", Right: 3, Rows: list("cd"), Next: one}, base("", "c", 2, "ab"))
	chain, _, err := m.Chain(0)
	if want := (api.Record{Kind: api.InnerDrop, Next: above}); err != nil || len(chain) != 3 || !reflect.DeepEqual(chain[0], want) {
		t.Errorf("%+v, %v", chain, err)
	}
	if x, err := m.Copy().Load(above); err != nil || x.Kind != api.InnerHold {
		t.Errorf("%+v, %v", x, err)
	}
}

func TestTheLastPageGoes(t *testing.T) {
	m := laid(t, 20)
	x := held(t, m, last())
	takes(t, "the last page", x, m, 10)
	succeeds(t, "the last page", x, head(m, 3), 3)
	holds(t, "the last page", m, "1c2 1=ab 2=cdef 3=ef!")
	records(t, "the last page", m, 2, api.Record{Kind: api.LeafMerge, Key: "e", Unbounded: true, Rows: list("ef"), Next: ref(3, 1)}, base("c", "e", 3, "cd"))
}

func TestAPageWithoutRowsGoes(t *testing.T) {
	m := laid(t, 20)
	write(t, m, 2, api.Record{Kind: api.LeafDel, Key: "c"})
	write(t, m, 2, api.Record{Kind: api.LeafDel, Key: "d"})
	x := held(t, m, middle())
	takes(t, "without rows", x, m, 12)
	succeeds(t, "without rows", x, head(m, 2), 2)
	holds(t, "without rows", m, "1e3 1=ab 2=! 3=ef")
	if p, err := loaded(m, 1); err != nil || p.Rows.High != "e" || p.Rows.Right != 3 {
		t.Errorf("%+v, %v", p, err)
	}
}

func TestLongChains(t *testing.T) {
	m := laid(t, 40)
	for range 7 {
		write(t, m, 1, api.Record{Kind: api.LeafPut, Key: "aa", Value: "1"})
	}
	for range 6 {
		write(t, m, 2, api.Record{Kind: api.LeafPut, Key: "cc", Value: "2"})
	}
	x := held(t, m, middle())
	takes(t, "long chains", x, m, 8+2+9+2+2)
	succeeds(t, "long chains", x, head(m, 2), 2)
	holds(t, "long chains", m, "1e3 1=aaabcccd 2=cccd! 3=ef")
}

func TestAnyPageAbove(t *testing.T) {
	m := laid(t, 20)
	n := add(t, m, api.Record{Kind: api.InnerBase, Unbounded: true, Entries: []api.Entry{{Page: 1}, {Key: "c", Page: 2}}})
	y := write(t, m, n, api.Record{Kind: api.InnerHold, Hold: middle()})
	x := merge.Begin(n, y, middle())
	takes(t, "above", x, m, 10)
	succeeds(t, "above", x, head(m, 2), 2)
	chain, _, _ := m.Chain(n)
	if len(chain) != 3 || chain[0].Kind != api.InnerDrop || chain[0].Next != y {
		t.Errorf("%+v", chain)
	}
}

// P13.1, step 1: the page that goes.

func TestThePageIsGone(t *testing.T) {
	m := laid(t, 20)
	x := held(t, m, middle())
	y := write(t, m, 2, api.Record{Kind: api.LeafRemove})
	takes(t, "gone", x, m, 9)
	succeeds(t, "gone", x, y, 2)
	holds(t, "gone", m, "1e3 1=abcd 2=cd! 3=ef")
	if chain, _, _ := m.Chain(2); len(chain) != 2 {
		t.Errorf("it is removed twice: %+v", chain)
	}
}

func TestThePageIsChangedMeanwhile(t *testing.T) {
	for ahead := 1; ahead <= 3; ahead++ {
		m := laid(t, 20)
		x := held(t, m, middle())
		some(t, x, m, ahead)
		write(t, m, 2, api.Record{Kind: api.LeafPut, Key: "cc", Value: "1"})
		takes(t, "changed", x, m, 5-ahead+3+2+6) // undone, and then as if it were just begun, with one more record
		succeeds(t, "changed", x, head(m, 2), 2)
		holds(t, "changed", m, "1e3 1=abcccd 2=cccd! 3=ef")
		if len(m.Live()) != 5+1+3 {
			t.Errorf("%d live slots", len(m.Live()))
		}
	}
}

func TestThePageGoesMeanwhile(t *testing.T) {
	for ahead := 1; ahead <= 3; ahead++ {
		m := laid(t, 20)
		x := held(t, m, middle())
		some(t, x, m, ahead)
		y := write(t, m, 2, api.Record{Kind: api.LeafRemove})
		takes(t, "gone", x, m, 5-ahead+3+6)
		succeeds(t, "gone", x, y, 2)
		holds(t, "gone", m, "1e3 1=abcd 2=cd! 3=ef")
	}
}

func TestThePageIsChangedAgainAndAgain(t *testing.T) {
	m := laid(t, 40)
	x := held(t, m, middle())
	for n := range 9 {
		some(t, x, m, n+3)
		write(t, m, 2, api.Record{Kind: api.LeafPut, Key: "c" + strconv.Itoa(n), Value: "1"})
		some(t, x, m, 2)
	}
	takes(t, "changed", x, m, 11+2+6)
	succeeds(t, "changed", x, head(m, 2), 2)
	if got, want := keys(m, 1), "abcc0c1c2c3c4c5c6c7c8d"; got != want {
		t.Errorf("%q, not %q", got, want)
	}
}

// P13.1, step 2: the page on the left.

func TestTheLeftPageIsGone(t *testing.T) {
	m := laid(t, 20)
	write(t, m, 1, api.Record{Kind: api.LeafRemove})
	x := held(t, m, middle())
	takes(t, "the left page is gone", x, m, 7)
	fails(t, "the left page is gone", x, nil)
	holds(t, "the left page is gone", m, "1c2e3! 1=ab! 2=cd! 3=ef")

	m = laid(t, 20) // gone, though the rows are on it
	write(t, m, 1, api.Record{Kind: api.LeafMerge, Key: "c", High: "e", Right: 3, Rows: list("cd")})
	write(t, m, 1, api.Record{Kind: api.LeafRemove})
	x = held(t, m, middle())
	takes(t, "the merged page is gone", x, m, 8)
	fails(t, "the merged page is gone", x, nil)
}

func TestTheRowsAreThereAlready(t *testing.T) {
	m := laid(t, 20)
	y := write(t, m, 2, api.Record{Kind: api.LeafRemove})
	write(t, m, 1, api.Record{Kind: api.LeafMerge, Key: "c", High: "e", Right: 3, Rows: list("cd")})
	write(t, m, 1, api.Record{Kind: api.LeafDel, Key: "c"})
	x := held(t, m, middle())
	takes(t, "there", x, m, 3+4+2)
	succeeds(t, "there", x, y, 2)
	holds(t, "there", m, "1e3 1=abd 2=cd! 3=ef")
}

func TestTheLeftPageWasSplitAfterTheMerge(t *testing.T) {
	m := laid(t, 20)
	y := write(t, m, 2, api.Record{Kind: api.LeafRemove})
	write(t, m, 1, api.Record{Kind: api.LeafMerge, Key: "c", High: "e", Right: 3, Rows: list("cd")})
	n := add(t, m, base("c", "e", 3, "cd"))
	write(t, m, 1, api.Record{Kind: api.LeafSplit, Key: "c", Page: n})
	x := held(t, m, middle())
	takes(t, "split at the key", x, m, 3+4+2)
	succeeds(t, "split at the key", x, y, 2)
	holds(t, "split at the key", m, "1e3 1=ab 2=cd! 3=ef 4=cd")
}

func TestTheLeftPageWasSplitAheadOfTheMerge(t *testing.T) {
	m := laid(t, 20)
	n := add(t, m, base("b", "c", 2, "b"))
	write(t, m, 1, api.Record{Kind: api.LeafSplit, Key: "b", Page: n})
	x := held(t, m, middle())
	takes(t, "split", x, m, 4+3+2+2+2)
	succeeds(t, "split", x, head(m, 2), 2)
	holds(t, "split", m, "1e3 1=a 2=cd! 3=ef 4=bcd")
}

func TestManyPagesOnTheLeft(t *testing.T) {
	m := laid(t, 30)
	right := 2
	for _, c := range []string{"bc", "ab", "9a", "89"} {
		right = add(t, m, base(c[:1], c[1:], right, ""))
	}
	write(t, m, 1, api.Record{Kind: api.LeafSplit, Key: "8", Page: right})
	x := held(t, m, middle())
	takes(t, "many pages", x, m, 4+3+2*4+2+2)
	succeeds(t, "many pages", x, head(m, 2), 2)
	if keys(m, 4) != "cd" || keys(m, 1) != "" {
		t.Error(state(m))
	}
}

func TestTheLeftPageIsAfterTheKey(t *testing.T) {
	for _, high := range []string{"", "z"} {
		m := laid(t, 20)
		held(t, m, middle())
		x := merge.Begin(0, head(m, 0), elsewhere(add(t, m, base("d", high, 2, ""))))
		takes(t, "after the key", x, m, 4+2)
		fails(t, "after the key", x, nil)
		holds(t, "after the key", m, "1c2e3! 1=ab 2=cd! 3=ef 4=")
	}
}

func TestTheLeftPageHasAnEmptySpan(t *testing.T) {
	for _, c := range []struct {
		low, high string
		right     int
		ok        bool
		steps     int
	}{
		{"x", "c", 2, true, 10}, {"x", "c", 1, true, 8}, {"x", "d", 2, false, 6},
		{"x", "b", 1, true, 12}, {"c", "c", 2, true, 10}, {"d", "d", 2, false, 6},
	} {
		m := laid(t, 20)
		held(t, m, middle())
		x := merge.Begin(0, head(m, 0), elsewhere(add(t, m, base(c.low, c.high, c.right, ""))))
		takes(t, c.low+" to "+c.high, x, m, c.steps)
		if ok, err := x.Done(); ok != c.ok || err != nil {
			t.Errorf("%s to %s: %v, %v", c.low, c.high, ok, err)
		}
	}
}

func TestThePagesOnTheLeftAreACircle(t *testing.T) {
	m := laid(t, 20)
	held(t, m, middle())
	x := merge.Begin(0, head(m, 0), elsewhere(add(t, m, base("a", "b", 4, ""))))
	some(t, x, m, 200)
	holds(t, "a circle", m, "1c2e3! 1=ab 2=cd! 3=ef 4=")
	write(t, m, 4, api.Record{Kind: api.LeafSplit, Key: "aa", Page: 1})
	steps(t, x, m)
	succeeds(t, "no circle any more", x, head(m, 2), 2)
}

func TestTheLeftPageIsChangedMeanwhile(t *testing.T) {
	for ahead := 5; ahead <= 7; ahead++ {
		m := laid(t, 20)
		x := held(t, m, middle())
		some(t, x, m, ahead)
		write(t, m, 1, api.Record{Kind: api.LeafPut, Key: "aa", Value: "1"})
		takes(t, "changed", x, m, 9-ahead+3+2+2)
		succeeds(t, "changed", x, head(m, 2), 2)
		holds(t, "changed", m, "1e3 1=aaabcd 2=cd! 3=ef")
		if len(m.Live()) != 5+1+3 {
			t.Errorf("%d live slots", len(m.Live()))
		}
	}
}

func TestTheLeftPageIsSplitMeanwhile(t *testing.T) {
	for ahead := 5; ahead <= 7; ahead++ {
		m := laid(t, 20)
		x := held(t, m, middle())
		some(t, x, m, ahead)
		n := add(t, m, base("b", "c", 2, "b"))
		write(t, m, 1, api.Record{Kind: api.LeafSplit, Key: "b", Page: n})
		takes(t, "split", x, m, 9-ahead+3+2+2+2)
		succeeds(t, "split", x, head(m, 2), 2)
		holds(t, "split", m, "1e3 1=a 2=cd! 3=ef 4=bcd")
	}
}

func TestAPageFurtherToTheRightIsLoadedAgain(t *testing.T) {
	m := laid(t, 20)
	n := add(t, m, base("b", "c", 2, "b"))
	write(t, m, 1, api.Record{Kind: api.LeafSplit, Key: "b", Page: n})
	x := held(t, m, middle())
	some(t, x, m, 4+3+2)
	write(t, m, n, api.Record{Kind: api.LeafDel, Key: "b"})
	takes(t, "not from the first page on", x, m, 3+3+2+2)
	holds(t, "not from the first page on", m, "1e3 1=a 2=cd! 3=ef 4=cd")
}

func TestTheRowsAreMovedMeanwhile(t *testing.T) {
	for ahead := 5; ahead <= 7; ahead++ {
		m := laid(t, 20)
		x := held(t, m, middle())
		some(t, x, m, ahead)
		write(t, m, 1, api.Record{Kind: api.LeafMerge, Key: "c", High: "e", Right: 3, Rows: list("cd")})
		takes(t, "moved", x, m, 9-ahead+3+2)
		succeeds(t, "moved", x, head(m, 2), 2)
		holds(t, "moved", m, "1e3 1=abcd 2=cd! 3=ef")
	}
}

// The rows are those of when the page went, not those of another page by the same number.
func TestWhatIsMovedWasLoadedInStep1(t *testing.T) {
	m := laid(t, 20)
	x := held(t, m, middle())
	some(t, x, m, 4)
	old := head(m, 2)
	y, _ := m.Alloc(base("c", "e", 3, ""))
	m.Swap(2, old, y)
	takes(t, "another page", x, m, 6)
	succeeds(t, "another page", x, old, 2)
	holds(t, "another page", m, "1e3 1=abcd 2= 3=ef")
}

// P13.1, step 3: the page above.

func TestThePageAboveIsChanged(t *testing.T) {
	for ahead := range 10 {
		m := laid(t, 20)
		x := held(t, m, middle())
		some(t, x, m, ahead)
		y := write(t, m, 0, api.Record{Kind: api.InnerDrop})
		takes(t, "dropped meanwhile", x, m, 11-ahead)
		fails(t, "dropped meanwhile", x, nil)
		holds(t, "dropped meanwhile", m, "1e3 1=abcd 2=cd! 3=ef")
		if head(m, 0) != y || len(m.Live()) != 5+3 {
			t.Errorf("%v, and %d live slots", head(m, 0), len(m.Live()))
		}
	}
}

func TestAHeadThatWasNeverThere(t *testing.T) {
	for _, y := range []api.Ref{{}, ref(1, 1), ref(7, 7), ref(-1, math.MaxInt)} {
		m := laid(t, 20)
		held(t, m, middle())
		x := merge.Begin(0, y, middle())
		takes(t, "another head", x, m, 11)
		fails(t, "another head", x, nil)
		holds(t, "another head", m, "1c2e3! 1=abcd 2=cd! 3=ef")
	}
}

// P13.1, errors.

func TestErrorsOfLoading(t *testing.T) {
	for _, c := range []struct {
		hold  api.Hold
		steps int
		err   error
	}{
		{api.Hold{Page: 5, Left: 1, Key: "c"}, 1, in("table", 5, api.ErrNone)},
		{api.Hold{Page: 9, Left: 1, Key: "c"}, 1, in("table", 9, api.ErrArg)},
		{api.Hold{Page: -1, Left: 1, Key: "c"}, 1, in("table", -1, api.ErrArg)},
		{api.Hold{Page: math.MaxInt, Left: math.MinInt}, 1, in("table", math.MaxInt, api.ErrArg)},
		{api.Hold{Page: 4, Left: 1, Key: "c"}, 1, api.ErrChain},
		{api.Hold{Page: 0, Left: 1, Key: "c"}, 3, api.ErrKind},
		{api.Hold{Page: 2, Left: 5, Key: "c"}, 5, in("table", 5, api.ErrNone)},
		{api.Hold{Page: 2, Left: 9, Key: "c"}, 5, in("table", 9, api.ErrArg)},
		{api.Hold{Page: 2, Left: -1, Key: "c"}, 5, in("table", -1, api.ErrArg)},
		{api.Hold{Page: 2, Left: 4, Key: "c"}, 5, api.ErrChain},
		{api.Hold{Page: 2, Left: 0, Key: "c"}, 7, api.ErrKind},
		{api.Hold{Page: 2, Left: 0, Key: strings.Repeat("k", 1000)}, 7, api.ErrKind},
	} {
		m := laid(t, 20)
		held(t, m, middle())
		m.Take()
		x := merge.Begin(0, head(m, 0), c.hold)
		works(t, "an error of loading", x)
		takes(t, "an error of loading", x, m, c.steps)
		fails(t, "an error of loading", x, c.err)
		if keys(m, 1) != "ab" || keys(m, 3) != "ef" || entries(m) != "1c2e3!" {
			t.Error(state(m))
		}
	}
}

func TestChainsThatAreNoPages(t *testing.T) {
	for n, want := range map[int]int{1: 4 + 3, 2: 3} {
		for kind, c := range map[int]api.Code{api.LeafPut: api.ErrChain, api.LeafBase: api.ErrChain, api.InnerHold: api.ErrKind, 99: api.ErrKind} {
			m := laid(t, 20)
			write(t, m, n, api.Record{Kind: kind, Key: "z"})
			x := held(t, m, middle())
			takes(t, "no page", x, m, want)
			fails(t, "no page", x, c)
		}
	}
	m := laid(t, 20)
	x := held(t, m, middle())
	m.Free(ref(3, 1))
	takes(t, "a record that is gone", x, m, 2)
	fails(t, "a record that is gone", x, in("arena", 3, api.ErrStale))
}

func TestPagesFurtherToTheRight(t *testing.T) {
	for _, c := range []struct {
		right, steps int
		err          error
	}{
		{0, 4 + 2 + 3, api.ErrKind}, {2, 4 + 2 + 3, nil}, {7, 4 + 2 + 1, in("table", 7, api.ErrNone)}, {-5, 4 + 2 + 1, in("table", -5, api.ErrArg)},
	} {
		m := laid(t, 20)
		held(t, m, middle())
		x := merge.Begin(0, head(m, 0), elsewhere(add(t, m, base("a", "b", c.right, ""))))
		takes(t, "to the right", x, m, c.steps)
		fails(t, "to the right", x, c.err)
	}
}

func TestNoSlots(t *testing.T) {
	for free, c := range []struct {
		steps int
		want  string
	}{
		{3, "1c2e3! 1=ab 2=cd 3=ef"}, {7, "1c2e3! 1=ab 2=cd! 3=ef"}, {9, "1c2e3! 1=abcd 2=cd! 3=ef"},
	} {
		m := laid(t, 20)
		x := held(t, m, middle())
		fill(t, m, free)
		live := len(m.Live())
		takes(t, "no slots", x, m, c.steps)
		fails(t, "no slots", x, in("arena", 0, api.ErrFull))
		holds(t, "no slots", m, c.want)
		if len(m.Live()) != live+free {
			t.Errorf("%d free slots: %d are live", free, len(m.Live()))
		}
		if free == 0 {
			continue
		}
		m.Free(ref(9, 1)) // another helper goes on, where there is a slot
		m.Free(ref(10, 1))
		m.Free(ref(11, 1))
		y := merge.Begin(0, head(m, 0), middle())
		steps(t, y, m)
		succeeds(t, "with slots", y, head(m, 2), 2)
		holds(t, "with slots", m, "1e3 1=abcd 2=cd! 3=ef")
	}
}

func TestPagesAreGivenBackMeanwhile(t *testing.T) {
	for _, c := range []struct{ ahead, page, more, freed int }{
		{2, 2, 3, 0}, {3, 2, 2, 1}, {6, 1, 3, 0}, {7, 1, 2, 1},
	} {
		m := laid(t, 20)
		x := held(t, m, middle())
		some(t, x, m, c.ahead)
		if err := m.Give(c.page); err != nil {
			t.Fatal(err)
		}
		live := len(m.Live())
		takes(t, "given back", x, m, c.more)
		fails(t, "given back", x, in("table", c.page, api.ErrNone))
		if now := len(m.Live()); now != live-c.freed {
			t.Errorf("%d live slots, not %d", now, live-c.freed)
		}
	}
}

func TestThePageAboveIsNone(t *testing.T) {
	for n, want := range map[int]error{5: in("table", 5, api.ErrNone), 9: in("table", 9, api.ErrArg), -1: in("table", -1, api.ErrArg), math.MinInt: in("table", math.MinInt, api.ErrArg)} {
		m := laid(t, 20)
		held(t, m, middle())
		x := merge.Begin(n, head(m, 0), middle())
		takes(t, "above is none", x, m, 11)
		fails(t, "above is none", x, want)
		holds(t, "above is none", m, "1c2e3! 1=abcd 2=cd! 3=ef")
		if len(m.Live()) != 5+2 {
			t.Errorf("%d live slots", len(m.Live()))
		}
	}
}

func TestNoMemory(t *testing.T) {
	for ahead := range 10 {
		m := laid(t, 20)
		x := held(t, m, middle())
		some(t, x, m, ahead)
		was := m.Count()
		x.Step(nil)
		if m.Count() != was {
			t.Error("an access without a memory")
		}
		steps(t, x, m)
		fails(t, "no memory", x, api.ErrArg)
	}
	x := merge.Begin(0, ref(1, 1), middle())
	if !x.Step(nil) {
		t.Error("the helper goes on without a memory")
	}
	fails(t, "never a memory", x, api.ErrArg)
}

// P13.1, helpers.

func TestBeginMakesNoAccess(t *testing.T) {
	m := laid(t, 20)
	was := m.Count()
	for _, h := range []api.Hold{middle(), {}, {Page: -1, Left: math.MaxInt, Key: strings.Repeat("k", 1000)}} {
		works(t, "just begun", merge.Begin(math.MinInt, ref(math.MinInt, 0), h))
	}
	if m.Count() != was {
		t.Error("accesses:", m.Count()-was)
	}
}

func TestNoHelper(t *testing.T) {
	var x *merge.Helper
	m := laid(t, 20)
	was := m.Count()
	if !x.Over() || !x.Step(m) || !x.Step(nil) || m.Count() != was {
		t.Errorf("%v, and %d accesses", x.Over(), m.Count()-was)
	}
	fails(t, "nil", x, api.ErrArg)
}

func TestAHelperThatWasNotBegun(t *testing.T) {
	x := &merge.Helper{}
	m := laid(t, 20)
	was := m.Count()
	if !x.Step(m) || !x.Step(nil) || m.Count() != was {
		t.Error("accesses:", m.Count()-was)
	}
	x.Done()
	none(t, "zero", x)
}

func TestStepsOfWhoHasFinished(t *testing.T) {
	m := laid(t, 20)
	x := held(t, m, middle())
	late, wrong := merge.Begin(0, head(m, 0), middle()), merge.Begin(0, head(m, 0), api.Hold{})
	steps(t, x, m)
	takes(t, "late", late, m, 3+3+3)
	takes(t, "wrong", wrong, m, 4)
	was, now := m.Count(), state(m)
	for range 3 {
		if !x.Step(m) || !late.Step(m) || !wrong.Step(m) || !x.Step(nil) || m.Count() != was {
			t.Error("accesses:", m.Count()-was)
		}
	}
	succeeds(t, "again", x, head(m, 2), 2)
	fails(t, "again", late, nil)
	fails(t, "again", wrong, api.ErrKind)
	holds(t, "again", m, now)
}

// A helper that was copied as a value goes on by itself.
func TestCopiesGoOnByThemselves(t *testing.T) {
	for ahead := range 11 {
		m := laid(t, 20)
		x := held(t, m, middle())
		for range ahead {
			x.Step(m)
		}
		y, c := *x, m.Copy()
		for range 5 {
			x.Step(m)
		}
		z, d := y, c.Copy()
		steps(t, &y, c)
		succeeds(t, "a copy", &y, head(c, 2), 2)
		holds(t, "a copy", c, "1e3 1=abcd 2=cd! 3=ef")
		steps(t, x, m)
		succeeds(t, "the original", x, head(m, 2), 2)
		if !reflect.DeepEqual(m, c) {
			t.Errorf("%q, and %q of the copy", state(m), state(c))
		}
		write(t, d, 0, api.Record{Kind: 99})
		steps(t, &z, d)
		if ok, _ := z.Done(); ok != (ahead >= 10) {
			t.Error("a copy is not on its own:", ok)
		}
	}
}

// What the chapter says, access by access.

// result is what a helper has when it has finished.
type result struct {
	ok   bool
	err  error
	head api.Ref
	page int
}

// without is what a helper has that finishes without success.
func without(err error) result { return result{err: err, page: -1} }

// others are what other threads do ahead of an access.
type others map[int]func(*mem.Memory)

// script does the accesses of a helper in a row, and keeps what the memory is after each of them.
type script struct {
	m     *mem.Memory
	other others
	trace []*mem.Memory
}

// most is after how many accesses a script stops, as pages may be a circle.
const most = 60

// stopped is how a script stops.
type stopped struct{}

// ahead lets the other threads do what they do ahead of the next access.
func (s *script) ahead() {
	if len(s.trace) == most {
		panic(stopped{})
	}
	if f := s.other[len(s.trace)]; f != nil {
		f(s.m)
	}
}

// behind keeps what the memory is.
func (s *script) behind() { s.trace = append(s.trace, s.m.Copy()) }

// load loads a leaf.
func (s *script) load(n int) (page.Page, error) {
	s.ahead()
	first, err := s.m.Head(n)
	s.behind()
	if err != nil {
		return page.Page{}, err
	}
	var chain []api.Record
	var refs []api.Ref
	for x := first; x != (api.Ref{}); {
		if len(chain) == s.m.Limits().Slots {
			return page.Page{}, api.ErrChain
		}
		s.ahead()
		r, err := s.m.Load(x)
		s.behind()
		if err != nil {
			return page.Page{}, err
		}
		chain, refs, x = append(chain, r), append(refs, x), r.Next
	}
	p, err := page.Of(n, first, chain, refs)
	if err == nil && !p.Leaf {
		return page.Page{}, api.ErrKind
	}
	return p, err
}

// put puts a record on a page, and returns whether it did, and the head.
func (s *script) put(n int, old api.Ref, r api.Record) (bool, api.Ref, error) {
	r.Next = old
	s.ahead()
	x, err := s.m.Alloc(r)
	s.behind()
	if err != nil {
		return false, api.Ref{}, err
	}
	s.ahead()
	ok, err := s.m.Swap(n, old, x)
	s.behind()
	if ok {
		return true, x, nil
	}
	s.ahead()
	s.m.Free(x)
	s.behind()
	return false, api.Ref{}, err
}

// chapter is what chapter 13 says, and whether it comes to an end.
func (s *script) chapter(n int, old api.Ref, h api.Hold) (r result, over bool) {
	defer func() {
		if x := recover(); x != nil && x != any(stopped{}) {
			panic(x)
		}
	}()
	return s.chapters(n, old, h), true
}

func (s *script) chapters(n int, old api.Ref, h api.Hold) result {
	var goes page.Page
	var gone api.Ref
	for gone == (api.Ref{}) {
		p, err := s.load(h.Page)
		if err != nil {
			return without(err)
		}
		goes, gone = p, p.Head
		if !p.Rows.Gone {
			_, gone, err = s.put(h.Page, p.Head, api.Record{Kind: api.LeafRemove})
			if err != nil {
				return without(err)
			}
		}
	}
	if ok, err := s.move(h, goes.Rows); !ok {
		return without(err)
	}
	ok, _, err := s.put(n, old, api.Record{Kind: api.InnerDrop})
	if !ok {
		return without(err)
	}
	return result{ok: true, head: gone, page: h.Page}
}

// move is step 2: whether there is a step 3.
func (s *script) move(h api.Hold, v leaf.View) (bool, error) {
	for left := h.Left; ; {
		p, err := s.load(left)
		l := p.Rows
		switch {
		case err != nil:
			return false, err
		case l.Gone:
			return false, nil
		case h.Key >= l.Low && (l.Unbounded || h.Key < l.High):
			return true, nil
		case l.Unbounded:
			return false, nil
		case l.High == h.Key && l.Right != h.Page:
			return true, nil
		case l.High == h.Key:
			ok, _, err := s.put(left, p.Head, api.Record{Kind: api.LeafMerge, Key: v.Low, High: v.High, Unbounded: v.Unbounded, Right: v.Right, Rows: v.Rows})
			if ok || err != nil {
				return ok, err
			}
		case l.High < h.Key:
			left = l.Right
		default:
			return false, nil
		}
	}
}

// helps does a hold of page 0 with so many accesses, as another helper.
func helps(h api.Hold, accesses int) func(*mem.Memory) {
	return func(m *mem.Memory) {
		x := merge.Begin(0, head(m, 0), h)
		for range accesses {
			x.Step(m)
		}
	}
}

// puts puts a record in front of a page, if there is a slot.
func puts(n int, r api.Record) func(*mem.Memory) {
	return func(m *mem.Memory) {
		old, _ := m.Head(n)
		r.Next = old
		x, _ := m.Alloc(r)
		m.Swap(n, old, x)
	}
}

// splits splits a leaf in halves, if there is a slot.
func splits(n int) func(*mem.Memory) {
	return func(m *mem.Memory) {
		p, err := loaded(m, n)
		right, e := m.Take()
		s, r, f := leaf.Split(p.Rows, right)
		if err != nil || e != nil || f != nil {
			return
		}
		x, _ := m.Alloc(r)
		m.Swap(right, api.Ref{}, x)
		puts(n, s)(m)
	}
}

// disturbances are what other threads may do between two accesses, whether they ought to or not.
func disturbances() []func(*mem.Memory) {
	l := []func(*mem.Memory){
		func(*mem.Memory) {}, helps(middle(), 4), helps(middle(), 8), helps(middle(), 30), helps(last(), 30),
		puts(0, api.Record{Kind: api.InnerDrop}), puts(1, api.Record{Kind: api.LeafRemove}), puts(2, api.Record{Kind: api.LeafRemove}),
		puts(1, api.Record{Kind: api.LeafPut, Key: "aa"}), puts(2, api.Record{Kind: api.LeafPut, Key: "cc"}), puts(4, api.Record{Kind: api.LeafPut, Key: "bb"}),
		puts(1, api.Record{Kind: api.LeafDel, Key: "z"}), puts(1, api.Record{Kind: api.InnerHold}), splits(1), splits(2),
		puts(1, api.Record{Kind: api.LeafSplit, Key: "b", Page: 3}), puts(1, api.Record{Kind: api.LeafSplit, Key: "b", Page: 1}),
		func(m *mem.Memory) {
			for _, err := m.Alloc(api.Record{}); err == nil; _, err = m.Alloc(api.Record{}) {
			}
		},
		func(m *mem.Memory) { m.Alloc(api.Record{}) },
		func(m *mem.Memory) { m.Take() },
	}
	for n := range 4 {
		l = append(l, func(m *mem.Memory) { m.Give(n + 1) }, func(m *mem.Memory) {
			if live := m.Live(); len(live) > n {
				m.Free(live[len(live)-1-n])
			}
		})
	}
	return l
}

// agrees asks that a helper does step by step what the chapter says.
func agrees(t *testing.T, name string, m *mem.Memory, h api.Hold, other others) (result, bool) {
	t.Helper()
	old := head(m, 0)
	s := &script{m: m.Copy(), other: other}
	want, over := s.chapter(0, old, h)
	x := merge.Begin(0, old, h)
	for k, after := range s.trace {
		works(t, name, x)
		if f := other[k]; f != nil {
			f(m)
		}
		if is := x.Step(m); is != (over && k == len(s.trace)-1) {
			t.Fatalf("%s: Step %d is %v", name, k, is)
		}
		if !reflect.DeepEqual(m, after) {
			t.Fatalf("%s: %q after step %d, not %q", name, state(m), k, state(after))
		}
	}
	if !over {
		works(t, name, x)
		return want, false
	}
	ok, err := x.Done()
	gone, n := x.Gone()
	if ok != want.ok || !reflect.DeepEqual(err, want.err) || gone != want.head || n != want.page {
		t.Fatalf("%s: %v, %v, %v, %d, not %+v", name, ok, err, gone, n, want)
	}
	return want, true
}

// code is the code in an error, and 0 without one.
func code(err error) api.Code {
	var c api.Code
	errors.As(err, &c)
	return c
}

// settings are memories with a hold, from which a helper begins.
func settings(t *testing.T) []func() (*mem.Memory, api.Hold) {
	with := func(slots int, h api.Hold, first ...func(*mem.Memory)) func() (*mem.Memory, api.Hold) {
		return func() (*mem.Memory, api.Hold) {
			m := laid(t, slots)
			held(t, m, h)
			for _, f := range first {
				f(m)
			}
			return m, h
		}
	}
	return []func() (*mem.Memory, api.Hold){
		with(30, middle()), with(30, last()), with(9, middle()),
		with(30, middle(), splits(1)), with(30, middle(), splits(2)), with(30, middle(), splits(1), splits(1)),
		with(30, middle(), helps(middle(), 4)), with(30, middle(), helps(middle(), 8)), with(30, middle(), helps(middle(), 8), splits(1)),
		with(30, middle(), puts(1, api.Record{Kind: api.LeafRemove})),
	}
}

func TestWhateverOthersDo(t *testing.T) {
	done := map[bool]int{}
	codes := map[api.Code]int{}
	endless := 0
	l := disturbances()
	for n, setting := range settings(t) {
		for k := range 13 {
			for a, f := range l {
				for b, g := range l {
					if b > 0 && (n+k+3*a+5*b)%7 > 0 { // not all pairs, as there are too many
						continue
					}
					name := strconv.Itoa(n) + ", " + strconv.Itoa(a) + " ahead of " + strconv.Itoa(k) + ", and then " + strconv.Itoa(b)
					m, h := setting()
					r, over := agrees(t, name, m, h, others{k: f, k + 3: g})
					if !over {
						endless++
						continue
					}
					done[r.ok]++
					codes[code(r.err)]++
				}
			}
		}
	}
	if endless == 0 || done[true] == 0 || done[false] == 0 {
		t.Error("not all that may happen did:", endless, done)
	}
	for _, c := range []api.Code{0, api.ErrFull, api.ErrStale, api.ErrNone, api.ErrKind, api.ErrChain} {
		if codes[c] == 0 {
			t.Error("not all errors were there:", codes)
		}
	}
}

// P13.2 and P13.3.

// actor is a thread that does something, one access at a time.
type actor interface {
	step(m *mem.Memory) bool
	over() bool
	copied() actor
}

// helper is an actor that does a hold.
type helper struct{ merge.Helper }

func (x *helper) step(m *mem.Memory) bool { return x.Step(m) }

func (x *helper) over() bool { return x.Over() }

func (x *helper) copied() actor {
	y := *x
	return &y
}

// writer is an actor that changes the leaf of a key: it puts a row there, or splits the leaf if the key is "". It begins at a page to which it was sent when this was not gone yet, and helps if it is.
type writer struct {
	key      string
	helper   merge.Helper
	hold     *merge.Helper // just begun
	loader   page.Loader
	job      install.Installer
	putting  bool
	finished bool
}

// writes is a writer of a key, which begins at a page.
func writes(key string, n int) *writer { return &writer{key: key, loader: *page.Begin(n)} }

func (x *writer) over() bool { return x.finished }

func (x *writer) copied() actor {
	y := *x
	return &y
}

func (x *writer) step(m *mem.Memory) bool {
	switch {
	case x.finished:
	case !x.helper.Over():
		x.helper.Step(m)
	case x.putting:
		if x.job.Step(m) {
			x.finished, _ = x.job.Done()
			x.putting, x.loader = false, *page.Begin(1)
		}
	case x.loader.Step(m):
		x.look()
	}
	return x.finished
}

// look decides what a writer does at a page.
func (x *writer) look() {
	p, err := x.loader.Page()
	if err != nil {
		panic(err)
	}
	switch {
	case p.Rows.Gone:
		x.helper, x.loader = *x.hold, *page.Begin(1)
	case x.key != "" && x.key < p.Rows.Low:
		x.loader = *page.Begin(1)
	case x.key != "" && !p.Has(x.key):
		x.loader = *page.Begin(p.Rows.Right)
	default:
		x.putting, x.job = true, *install.Begin(x.change(p))
	}
}

// change is what a writer changes at a page.
func (x *writer) change(p page.Page) install.Job {
	if x.key != "" {
		return install.Job{Page: p.N, Old: p.Head, Make: func([]int) ([]api.Record, api.Record) {
			return nil, api.Record{Kind: api.LeafPut, Key: x.key, Value: "new", Next: p.Head}
		}}
	}
	return install.Job{Page: p.N, Old: p.Head, News: 1, Make: func(pages []int) ([]api.Record, api.Record) {
		s, r, _ := leaf.Split(p.Rows, pages[0])
		s.Next = p.Head
		return []api.Record{r}, s
	}}
}

// copies are actors that go on by themselves.
func copies(l []actor) []actor {
	var made []actor
	for _, x := range l {
		made = append(made, x.copied())
	}
	return made
}

// interleave lets actors finish, in every order in which they stop for one another at most so many times before they have finished, and calls with the memory and with all of them.
func interleave(m *mem.Memory, l []actor, stops int, call func(m *mem.Memory, l []actor)) {
	finished := true
	for k, x := range l {
		if !x.over() {
			finished = false
			run(m.Copy(), copies(l), k, stops, call)
		}
	}
	if finished {
		call(m, l)
	}
}

// run is interleave with one of the actors running.
func run(m *mem.Memory, l []actor, running, stops int, call func(m *mem.Memory, l []actor)) {
	for !l[running].step(m) {
		for k, x := range l {
			if stops > 0 && k != running && !x.over() {
				run(m.Copy(), copies(l), k, stops-1, call)
			}
		}
	}
	interleave(m, l, stops, call)
}

// leaves are the rows of all leaves from page 1 on, in a few words: a bar between two leaves.
func leaves(t *testing.T, m *mem.Memory) string {
	t.Helper()
	var text strings.Builder
	for n, many := 1, 0; many < 9; many++ {
		p, err := loaded(m, n)
		if err != nil || p.Rows.Gone {
			t.Fatalf("page %d is %+v, %v", n, p, err)
		}
		for _, r := range p.Rows.Rows {
			text.WriteString(r.Key + r.Value + " ")
		}
		if p.Rows.Unbounded {
			return text.String()
		}
		text.WriteString("| ")
		n = p.Rows.Right
	}
	t.Fatal("there is no end")
	return ""
}

// merges is how many records there are that put rows behind a leaf.
func merges(m *mem.Memory) int {
	n := 0
	for _, x := range m.Live() {
		if r, _ := m.Copy().Load(x); r.Kind == api.LeafMerge {
			n++
		}
	}
	return n
}

// helperOf is the helper of an actor.
func helperOf(x actor) *merge.Helper {
	switch x := x.(type) {
	case *helper:
		return &x.Helper
	case *writer:
		return &x.helper
	}
	return nil
}

// winner is which actor put the drop, of which there is to be one.
func winner(t *testing.T, m *mem.Memory, l []actor) int {
	t.Helper()
	won := -1
	for k, x := range l {
		h := helperOf(x)
		done, err := h.Done()
		if err != nil || done && won >= 0 {
			t.Fatalf("helper %d: %v, %v, after %d", k, done, err, won)
		}
		if done {
			won = k
			succeeds(t, "the winner", h, head(m, 2), 2)
		}
	}
	if won < 0 {
		t.Fatal("no helper put the drop")
	}
	return won
}

func TestHoweverManyHelpers(t *testing.T) {
	for _, c := range []struct{ helpers, stops int }{{1, 0}, {2, 5}, {3, 2}, {5, 1}} {
		m := laid(t, 9+c.helpers)
		l := []actor{&helper{*held(t, m, middle())}}
		for len(l) < c.helpers {
			l = append(l, &helper{*merge.Begin(0, head(m, 0), middle())})
		}
		won := map[int]int{}
		interleave(m, l, c.stops, func(m *mem.Memory, l []actor) {
			won[winner(t, m, l)]++
			if got := state(m); got != "1e3 1=abcd 2=cd! 3=ef" || len(m.Live()) != 5+3 {
				t.Fatalf("%q, and %d live slots", got, len(m.Live()))
			}
		})
		if len(won) != c.helpers {
			t.Errorf("%d helpers: only %v put the drop", c.helpers, won)
		}
	}
}

func TestWhatOthersPutStays(t *testing.T) {
	for _, c := range []struct {
		writers []*writer
		stops   int
		want    string
		leaves  int
	}{
		{[]*writer{writes("aa", 1)}, 2, "aa aanew bb cc dd ee ff", 2},
		{[]*writer{writes("cc", 2)}, 2, "aa bb cc ccnew dd ee ff", 2},
		{[]*writer{writes("", 1)}, 2, "aa bb cc dd ee ff", 3},
		{[]*writer{writes("b", 1), writes("d", 2)}, 1, "aa bnew cc dnew ee ff", 2},
		{[]*writer{writes("", 1), writes("bb", 1)}, 1, "aa bb bbnew cc dd ee ff", 3},
		{[]*writer{writes("", 1), writes("cc", 2)}, 1, "aa bb cc ccnew dd ee ff", 3},
	} {
		m := laid(t, 15)
		l := []actor{&helper{*held(t, m, middle())}, &helper{*merge.Begin(0, head(m, 0), middle())}}
		for _, w := range c.writers {
			w.hold = merge.Begin(0, head(m, 0), middle())
			l = append(l, w)
		}
		interleave(m, l, c.stops, func(m *mem.Memory, l []actor) {
			winner(t, m, l)
			text := leaves(t, m)
			if got := strings.Join(strings.Fields(strings.ReplaceAll(text, "|", "")), " "); got != c.want || strings.Count(text, "|") != c.leaves-1 {
				t.Fatalf("%q: %q", text, state(m))
			}
			if entries(m) != "1e3" || merges(m) != 1 {
				t.Fatalf("%d merges, %q", merges(m), state(m))
			}
		})
	}
}

func TestAtMostOneSucceedsWithLittleSpace(t *testing.T) {
	for free := range 6 {
		m := laid(t, 12)
		l := []actor{&helper{*held(t, m, middle())}, &helper{*merge.Begin(0, head(m, 0), middle())}}
		fill(t, m, free)
		interleave(m, l, 3, func(m *mem.Memory, l []actor) {
			done := 0
			for _, x := range l {
				ok, err := x.(*helper).Done()
				if err != nil && code(err) != api.ErrFull {
					t.Fatal(err)
				}
				if ok {
					done++
				}
			}
			now := state(m)
			switch {
			case done == 1 && now == "1e3 1=abcd 2=cd! 3=ef":
			case done == 0 && (now == "1c2e3! 1=ab 2=cd 3=ef" || now == "1c2e3! 1=ab 2=cd! 3=ef" || now == "1c2e3! 1=abcd 2=cd! 3=ef"):
			default:
				t.Fatalf("%d free slots, %d done: %q", free, done, now)
			}
		})
	}
}

func TestOneHoldAfterTheOther(t *testing.T) {
	m := laid(t, 30)
	for k, h := range []api.Hold{middle(), {Page: 3, Left: 1, Key: "e"}} {
		x := held(t, m, h)
		steps(t, x, m)
		succeeds(t, "hold "+strconv.Itoa(k), x, head(m, h.Page), h.Page)
	}
	holds(t, "two holds", m, "1 1=abcdef 2=cd! 3=ef!")

	m = laid(t, 30) // from the right
	for k, h := range []api.Hold{last(), middle()} {
		x := held(t, m, h)
		steps(t, x, m)
		succeeds(t, "hold "+strconv.Itoa(k), x, head(m, h.Page), h.Page)
	}
	holds(t, "two holds", m, "1 1=abcdef 2=cdef! 3=ef!")
}

// What a helper put is its own.

func TestRowsAreNotShared(t *testing.T) {
	m := laid(t, 20)
	x := held(t, m, middle())
	y := *x
	c := m.Copy()
	steps(t, x, m)
	chain, _, _ := m.Chain(1)
	chain[0].Rows[0].Key = "changed"
	chain, _, _ = m.Chain(2)
	chain[1].Rows[0].Key = "changed"
	holds(t, "changed results", m, "1e3 1=abcd 2=cd! 3=ef")
	steps(t, &y, c)
	if !reflect.DeepEqual(m, c) {
		t.Error("the same steps make something else:", state(m), state(c))
	}
}
