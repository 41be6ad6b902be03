package mapping_test

import (
	"errors"
	"math"
	"slices"
	"testing"

	"rowlock/api"
	"rowlock/mapping"
)

func ref(slot, gen int) api.Ref { return api.Ref{Slot: slot, Gen: gen} }

// code is the code of an error, or 0.
func code(err error) api.Code {
	var c api.Code
	errors.As(err, &c)
	return c
}

// made is a new table.
func made(t *testing.T, pages int) *mapping.Table {
	t.Helper()
	m := mapping.New(pages)
	if m == nil {
		t.Fatalf("New(%d) is nil", pages)
	}
	return m
}

// takes asks for the pages that come next.
func takes(t *testing.T, m *mapping.Table, want ...int) {
	t.Helper()
	for _, w := range want {
		if n, err := m.Take(); n != w || err != nil {
			t.Fatalf("Take is %d, %v, not %d", n, err, w)
		}
	}
}

// takeFails asks that no page can be taken, and that this changes nothing.
func takeFails(t *testing.T, m *mapping.Table, want api.Code) {
	t.Helper()
	used := m.Pages()
	for range 2 {
		if n, err := m.Take(); n != 0 || code(err) != want {
			t.Fatalf("Take is %d, %v, not %v", n, err, want)
		}
	}
	holds(t, m, used...)
}

// gives asks that pages are given.
func gives(t *testing.T, m *mapping.Table, pages ...int) {
	t.Helper()
	for _, n := range pages {
		if err := m.Give(n); err != nil {
			t.Fatalf("Give of %d: %v", n, err)
		}
	}
}

// swaps asks whether a swap succeeds.
func swaps(t *testing.T, m *mapping.Table, n int, old, new api.Ref, want bool) {
	t.Helper()
	if ok, err := m.Swap(n, old, new); ok != want || err != nil {
		t.Fatalf("Swap of page %d from %v to %v is %v, %v", n, old, new, ok, err)
	}
}

// heads asks for the heads of the first pages, all of which are used.
func heads(t *testing.T, m *mapping.Table, want ...api.Ref) {
	t.Helper()
	for n, w := range want {
		if x, err := m.Head(n); x != w || err != nil {
			t.Fatalf("the head of page %d is %v, %v, not %v", n, x, err, w)
		}
	}
}

// fails asks that nothing can be done with a page, and that this changes nothing.
func fails(t *testing.T, m *mapping.Table, n int, want api.Code) {
	t.Helper()
	used := m.Pages()
	if err := m.Give(n); code(err) != want {
		t.Fatalf("Give of %d is %v, not %v", n, err, want)
	}
	if x, err := m.Head(n); x != (api.Ref{}) || code(err) != want {
		t.Fatalf("Head of %d is %v, %v, not %v", n, x, err, want)
	}
	for _, old := range []api.Ref{{}, ref(1, 1)} {
		for _, new := range []api.Ref{{}, ref(1, 1), ref(2, 1)} {
			if ok, err := m.Swap(n, old, new); ok || code(err) != want {
				t.Fatalf("Swap of %d from %v to %v is %v, %v, not %v", n, old, new, ok, err, want)
			}
		}
	}
	holds(t, m, used...)
}

// holds asks which pages are used.
func holds(t *testing.T, m *mapping.Table, used ...int) {
	t.Helper()
	if got := m.Pages(); !slices.Equal(got, used) {
		t.Fatalf("Pages is %v, not %v", got, used)
	}
}

// upTo is the numbers below n.
func upTo(n int) []int {
	var l []int
	for i := range n {
		l = append(l, i)
	}
	return l
}

// P5.1, New.

func TestNew(t *testing.T) {
	for _, c := range []struct {
		pages int
		want  bool
	}{
		{1, true},
		{2, true},
		{api.MaxPages - 1, true},
		{api.MaxPages, true},
		{0, false},
		{-1, false},
		{math.MinInt, false},
		{api.MaxPages + 1, false},
		{math.MaxInt, false},
	} {
		m := mapping.New(c.pages)
		if (m != nil) != c.want {
			t.Errorf("New(%d) is %v", c.pages, m)
		}
		if m == nil {
			continue
		}
		holds(t, m)
		for n := range c.pages {
			fails(t, m, n, api.ErrNone)
		}
		for _, n := range []int{-1, c.pages, c.pages + 1, math.MinInt, math.MaxInt} {
			fails(t, m, n, api.ErrArg)
		}
		takes(t, m, upTo(c.pages)...)
		takeFails(t, m, api.ErrFull)
	}
}

// P5.1, Take.

func TestTakeIsTheLowestFreePage(t *testing.T) {
	m := made(t, 5)
	takes(t, m, 0, 1, 2, 3)
	gives(t, m, 2, 0)
	takes(t, m, 0, 2, 4)
	takeFails(t, m, api.ErrFull)
	gives(t, m, 3)
	gives(t, m, 1)
	takes(t, m, 1, 3)
	takeFails(t, m, api.ErrFull)
	gives(t, m, 4)
	takes(t, m, 4)
}

func TestTakeOfAFullTableKeepsTheHeads(t *testing.T) {
	m := made(t, 2)
	takes(t, m, 0, 1)
	swaps(t, m, 0, ref(0, 0), ref(1, 1), true)
	takeFails(t, m, api.ErrFull)
	heads(t, m, ref(1, 1), ref(0, 0))
}

func TestATakenPageHasTheZeroRef(t *testing.T) {
	m := made(t, 3)
	for range 3 {
		takes(t, m, 0, 1, 2)
		heads(t, m, ref(0, 0), ref(0, 0), ref(0, 0))
		for n := range 3 {
			swaps(t, m, n, ref(0, 0), ref(n+1, 1), true)
		}
		heads(t, m, ref(1, 1), ref(2, 1), ref(3, 1))
		gives(t, m, 0, 1, 2)
	}
}

func TestOnePage(t *testing.T) {
	m := made(t, 1)
	for gen := 1; gen <= 3; gen++ {
		holds(t, m)
		fails(t, m, 0, api.ErrNone)
		takes(t, m, 0)
		holds(t, m, 0)
		takeFails(t, m, api.ErrFull)
		heads(t, m, ref(0, 0))
		swaps(t, m, 0, ref(0, 0), ref(1, gen), true)
		heads(t, m, ref(1, gen))
		fails(t, m, 1, api.ErrArg)
		fails(t, m, -1, api.ErrArg)
		gives(t, m, 0)
	}
}

func TestTheGreatestTable(t *testing.T) {
	const last = api.MaxPages - 1
	m := made(t, api.MaxPages)
	takes(t, m, upTo(api.MaxPages)...)
	holds(t, m, upTo(api.MaxPages)...)
	swaps(t, m, last, ref(0, 0), ref(api.MaxSlots, api.MaxCount), true)
	if x, err := m.Head(last); x != ref(api.MaxSlots, api.MaxCount) || err != nil {
		t.Errorf("the last page's head is %v, %v", x, err)
	}
	fails(t, m, api.MaxPages, api.ErrArg)
	gives(t, m, last)
	fails(t, m, last, api.ErrNone)
	holds(t, m, upTo(last)...)
	takes(t, m, last)
	takeFails(t, m, api.ErrFull)
}

// P5.1, Give.

func TestGive(t *testing.T) {
	m := made(t, 4)
	takes(t, m, 0, 1, 2)
	swaps(t, m, 0, ref(0, 0), ref(1, 1), true)
	swaps(t, m, 2, ref(0, 0), ref(3, 1), true)
	gives(t, m, 1) // its head is still the zero ref
	holds(t, m, 0, 2)
	fails(t, m, 1, api.ErrNone)
	gives(t, m, 2)
	holds(t, m, 0)
	fails(t, m, 2, api.ErrNone)
	fails(t, m, 3, api.ErrNone) // never taken
	heads(t, m, ref(1, 1))
}

func TestGiveTwice(t *testing.T) {
	m := made(t, 2)
	takes(t, m, 0, 1)
	gives(t, m, 0)
	fails(t, m, 0, api.ErrNone)
	fails(t, m, 0, api.ErrNone)
	holds(t, m, 1)
	takes(t, m, 0)
	gives(t, m, 0)
	fails(t, m, 0, api.ErrNone)
}

// P5.1, pages that there are not.

func TestPagesThatThereAreNot(t *testing.T) {
	m := made(t, 2)
	for used := range 3 { // an empty table, one in between, and a full one
		holds(t, m, upTo(used)...)
		for _, n := range []int{-1, -2, 2, 3, api.MaxPages - 1, api.MaxPages, math.MinInt, math.MaxInt} {
			fails(t, m, n, api.ErrArg)
		}
		m.Take()
	}
}

// P5.1, Swap.

func TestExample1(t *testing.T) {
	a, b := ref(1, 1), ref(2, 1)
	m := made(t, 4)
	takes(t, m, 0)
	swaps(t, m, 0, api.Ref{}, a, true)
	swaps(t, m, 0, api.Ref{}, b, false)
	heads(t, m, a)
}

func TestSwapFromAnotherRef(t *testing.T) {
	for _, head := range []api.Ref{{}, ref(2, 3)} {
		m := made(t, 2)
		takes(t, m, 0, 1)
		swaps(t, m, 0, ref(0, 0), head, true)
		for _, old := range []api.Ref{
			ref(2, 2), ref(2, 4), ref(1, 3), ref(3, 3), ref(3, 2), ref(2, 0), ref(0, 3), ref(-2, -3),
			ref(math.MinInt, math.MinInt), ref(math.MaxInt, math.MaxInt),
		} {
			for _, new := range []api.Ref{{}, ref(2, 3), old, ref(5, 5)} {
				swaps(t, m, 0, old, new, false)
				heads(t, m, head, ref(0, 0))
			}
		}
		swaps(t, m, 0, head, ref(9, 9), true)
		heads(t, m, ref(9, 9), ref(0, 0))
	}
}

func TestSwapFromAHeadToItself(t *testing.T) {
	for _, head := range []api.Ref{{}, ref(1, 1)} {
		m := made(t, 1)
		takes(t, m, 0)
		swaps(t, m, 0, ref(0, 0), head, true)
		for range 2 {
			swaps(t, m, 0, head, head, true)
			heads(t, m, head)
		}
		swaps(t, m, 0, ref(7, 7), ref(7, 7), false)
		heads(t, m, head)
	}
}

func TestSwapToAnyRef(t *testing.T) {
	m := made(t, 1)
	takes(t, m, 0)
	var head api.Ref
	for _, x := range []api.Ref{
		ref(1, 1), ref(1, 2), ref(2, 2), ref(0, 0), ref(-1, -1), ref(0, 1), ref(1, 0),
		ref(math.MaxInt, math.MaxInt), ref(math.MinInt, math.MinInt), ref(api.MaxSlots+1, 0),
	} {
		swaps(t, m, 0, head, x, true)
		heads(t, m, x)
		holds(t, m, 0) // a page is used whatever its head is
		takeFails(t, m, api.ErrFull)
		head = x
	}
}

func TestAHeadThatWasIsNotTheHead(t *testing.T) {
	m := made(t, 1)
	takes(t, m, 0)
	swaps(t, m, 0, ref(0, 0), ref(1, 1), true)
	swaps(t, m, 0, ref(1, 1), ref(2, 1), true)
	swaps(t, m, 0, ref(1, 1), ref(3, 1), false)
	swaps(t, m, 0, ref(0, 0), ref(3, 1), false)
	swaps(t, m, 0, ref(2, 1), ref(1, 1), true)
	swaps(t, m, 0, ref(1, 1), ref(3, 1), true) // it is again
	gives(t, m, 0)
	takes(t, m, 0)
	swaps(t, m, 0, ref(3, 1), ref(4, 1), false)
	heads(t, m, ref(0, 0))
}

func TestSwapOfOnePageKeepsTheOthers(t *testing.T) {
	m := made(t, 3)
	takes(t, m, 0, 1, 2)
	swaps(t, m, 1, ref(0, 0), ref(1, 1), true)
	heads(t, m, ref(0, 0), ref(1, 1), ref(0, 0))
	swaps(t, m, 0, ref(0, 0), ref(1, 1), true)
	swaps(t, m, 2, ref(1, 1), ref(5, 5), false)
	swaps(t, m, 1, ref(1, 1), ref(2, 1), true)
	heads(t, m, ref(1, 1), ref(2, 1), ref(0, 0))
}

// P5.2, Pages.

func TestPagesRise(t *testing.T) {
	m := made(t, 5)
	holds(t, m)
	takes(t, m, 0, 1, 2, 3)
	holds(t, m, 0, 1, 2, 3)
	gives(t, m, 0)
	holds(t, m, 1, 2, 3)
	gives(t, m, 2)
	holds(t, m, 1, 3)
	takes(t, m, 0) // by number, not in the order in which they were taken
	holds(t, m, 0, 1, 3)
	gives(t, m, 3, 1, 0)
	holds(t, m)
}

func TestPagesShareNoMemory(t *testing.T) {
	m := made(t, 5)
	takes(t, m, 0, 1, 2)
	one, two := m.Pages(), m.Pages()
	was := slices.Clone(two[:cap(two)])
	for i := range one[:cap(one)] {
		one[:cap(one)][i] = 77
	}
	if !slices.Equal(two[:cap(two)], was) {
		t.Error("two results share memory")
	}
	holds(t, m, 0, 1, 2)
	gives(t, m, 0)
	if !slices.Equal(two, []int{0, 1, 2}) {
		t.Errorf("a result changed to %v", two)
	}
}

// P5.2, Copy.

func TestCopyHasTheSame(t *testing.T) {
	m := made(t, 4)
	takes(t, m, 0, 1, 2)
	swaps(t, m, 0, ref(0, 0), ref(1, 1), true)
	gives(t, m, 1)
	c := m.Copy()
	holds(t, c, 0, 2)
	heads(t, c, ref(1, 1))
	if x, err := c.Head(2); x != ref(0, 0) || err != nil {
		t.Errorf("the copy's head of page 2 is %v, %v", x, err)
	}
	fails(t, c, 1, api.ErrNone)
	fails(t, c, 4, api.ErrArg)
	takes(t, c, 1, 3)
	takeFails(t, c, api.ErrFull)
}

func TestCopyOfAFreshAndOfAFullTable(t *testing.T) {
	m := made(t, 2)
	c := m.Copy()
	holds(t, c)
	takes(t, c, 0, 1)
	d := c.Copy()
	holds(t, d, 0, 1)
	takeFails(t, d, api.ErrFull)
	holds(t, m)
}

func TestCopyAndOriginalAreIndependent(t *testing.T) {
	original := made(t, 3)
	takes(t, original, 0, 1)
	swaps(t, original, 0, ref(0, 0), ref(1, 1), true)
	for _, turned := range []bool{false, true} {
		a := original.Copy()
		b := a.Copy()
		if turned {
			a, b = b, a
		}
		swaps(t, a, 0, ref(1, 1), ref(2, 1), true)
		heads(t, b, ref(1, 1), ref(0, 0))
		swaps(t, b, 0, ref(1, 1), ref(3, 1), true) // of either, one swap succeeds
		heads(t, a, ref(2, 1), ref(0, 0))
		gives(t, a, 1)
		holds(t, b, 0, 1)
		takes(t, b, 2)
		holds(t, a, 0)
		fails(t, a, 2, api.ErrNone)
		takes(t, a, 1, 2)
		gives(t, b, 0)
		heads(t, a, ref(2, 1), ref(0, 0), ref(0, 0))
		holds(t, b, 1, 2)
	}
	holds(t, original, 0, 1)
	heads(t, original, ref(1, 1), ref(0, 0))
}

func TestTwoTablesAreIndependent(t *testing.T) {
	a, b := made(t, 2), made(t, 2)
	takes(t, a, 0, 1)
	swaps(t, a, 0, ref(0, 0), ref(1, 1), true)
	holds(t, b)
	takes(t, b, 0)
	heads(t, b, ref(0, 0))
	gives(t, a, 0)
	holds(t, b, 0)
}

// P5.2, a nil Table; and one that is not from New.

func TestNilTable(t *testing.T) {
	var m *mapping.Table
	takeFails(t, m, api.ErrArg)
	for _, n := range []int{0, 1, -1, api.MaxPages, math.MinInt, math.MaxInt} {
		fails(t, m, n, api.ErrArg)
	}
	holds(t, m)
	if c := m.Copy(); c != nil {
		t.Errorf("Copy is %v", c)
	}
}

func TestZeroTableDoesNotPanic(t *testing.T) {
	m := new(mapping.Table)
	for range 2 {
		m.Take()
		for _, n := range []int{0, 1, -1, math.MaxInt} {
			m.Give(n)
			m.Head(n)
			m.Swap(n, api.Ref{}, ref(1, 1))
		}
		m.Pages()
		m = m.Copy()
	}
}

// P5.3.

func TestOfSeveralSwapsFromOneHeadTheFirstSucceeds(t *testing.T) {
	for _, head := range []api.Ref{{}, ref(1, 1)} {
		for first := range 4 {
			m := made(t, 1)
			takes(t, m, 0)
			swaps(t, m, 0, ref(0, 0), head, true)
			for i := range 4 {
				swaps(t, m, 0, head, ref((first+i)%4+2, 1), i == 0)
				heads(t, m, ref(first+2, 1))
			}
		}
	}
}

// model is what a table has to be like, told in another way: the heads of the pages that are used.
type model map[int]api.Ref

// take is the page that comes next, or a code.
func (m model) take(pages int) (int, api.Code) {
	for n := range pages {
		if _, used := m[n]; !used {
			m[n] = api.Ref{}
			return n, 0
		}
	}
	return 0, api.ErrFull
}

// find tells whether nothing can be done with a page.
func (m model) find(pages, n int) api.Code {
	if n < 0 || n >= pages {
		return api.ErrArg
	}
	if _, used := m[n]; !used {
		return api.ErrNone
	}
	return 0
}

// check asks that a table is as the model.
func (m model) check(t *testing.T, calls []int, table *mapping.Table, pages int) {
	t.Helper()
	var used []int
	for n := -1; n <= pages; n++ {
		x, err := table.Head(n)
		want := m.find(pages, n)
		if code(err) != want || x != m[n] {
			t.Fatalf("%v: the head of page %d is %v, %v, not %v, %v", calls, n, x, err, m[n], want)
		}
		if want == 0 {
			used = append(used, n)
		}
	}
	if got := table.Pages(); !slices.Equal(got, used) {
		t.Fatalf("%v: Pages is %v, not %v", calls, got, used)
	}
}

// runCalls makes calls of a new table: each is 0 for a Take, or tells which page to give, or which swap to make.
func runCalls(t *testing.T, calls []int, pages, refs int) {
	t.Helper()
	table := made(t, pages)
	m := model{}
	for i, c := range calls {
		done := calls[:i+1]
		switch {
		case c == 0:
			n, err := table.Take()
			want, wantCode := m.take(pages)
			if n != want || code(err) != wantCode {
				t.Fatalf("%v: Take is %d, %v", done, n, err)
			}
		case c <= pages+1: // one more than there are
			err, want := table.Give(c-1), m.find(pages, c-1)
			if code(err) != want {
				t.Fatalf("%v: Give is %v", done, err)
			}
			delete(m, c-1)
		default:
			c -= pages + 2
			n, old, new := c/refs/refs, ref(c/refs%refs, 0), ref(c%refs, 0)
			ok, err := table.Swap(n, old, new)
			want := m.find(pages, n)
			swapped := want == 0 && m[n] == old
			if ok != swapped || code(err) != want {
				t.Fatalf("%v: Swap of page %d from %v to %v is %v, %v", done, n, old, new, ok, err)
			}
			if swapped {
				m[n] = new
			}
		}
		m.check(t, done, table, pages)
	}
}

func TestAllShortSequencesOfCalls(t *testing.T) {
	for _, c := range []struct{ pages, refs, length int }{
		{1, 2, 5}, {1, 3, 4}, {2, 2, 4}, {3, 2, 4},
	} {
		kinds := 2 + c.pages + (c.pages+1)*c.refs*c.refs
		sequences := 1
		for range c.length {
			sequences *= kinds
		}
		for s := range sequences {
			var calls []int
			for range c.length {
				calls = append(calls, s%kinds)
				s /= kinds
			}
			runCalls(t, calls, c.pages, c.refs)
		}
	}
}
