package arena_test

import (
	"errors"
	"math"
	"reflect"
	"slices"
	"strings"
	"testing"

	"rowlock/api"
	"rowlock/arena"
)

// record is a record that is told from others by a number, with a list of each kind.
func record(n int) api.Record {
	return api.Record{
		Kind:    api.LeafBase,
		Right:   n,
		Rows:    []api.Row{{Key: "a", Value: "1"}, {Key: "b", Value: "2"}},
		Entries: []api.Entry{{Key: "a", Page: n}, {Key: "b", Page: n}},
	}
}

// full is a record none of whose fields is zero.
func full() api.Record {
	return api.Record{
		Kind: 99, Low: "low", High: "high", Unbounded: true, Right: -1,
		Rows:    []api.Row{{Key: "b", Value: "1"}, {Key: "a"}},
		Entries: []api.Entry{{Key: "c", Page: 1 << 40}, {Page: -1}},
		Key:     strings.Repeat("k", 100), Value: "value", Page: -2,
		Hold: api.Hold{Page: 3, Left: 4, Key: "hold"},
		Next: api.Ref{Slot: 5, Gen: 6},
	}
}

// same tells whether two records are equal; a list without elements is like none.
func same(a, b api.Record) bool {
	if !slices.Equal(a.Rows, b.Rows) || !slices.Equal(a.Entries, b.Entries) {
		return false
	}
	a.Rows, a.Entries, b.Rows, b.Entries = nil, nil, nil, nil
	return reflect.DeepEqual(a, b)
}

func ref(slot, gen int) api.Ref { return api.Ref{Slot: slot, Gen: gen} }

// code is the code of an error, or 0.
func code(err error) api.Code {
	var c api.Code
	errors.As(err, &c)
	return c
}

// made is a new arena.
func made(t *testing.T, slots, last int) *arena.Arena {
	t.Helper()
	a := arena.New(slots, last)
	if a == nil {
		t.Fatalf("New(%d, %d) is nil", slots, last)
	}
	return a
}

// allocates asks for the refs that come next.
func allocates(t *testing.T, a *arena.Arena, want ...api.Ref) {
	t.Helper()
	for _, w := range want {
		x, err := a.Alloc(record(w.Slot))
		if x != w || err != nil {
			t.Fatalf("Alloc is %v, %v, not %v", x, err, w)
		}
	}
}

// frees asks that refs are freed.
func frees(t *testing.T, a *arena.Arena, refs ...api.Ref) {
	t.Helper()
	for _, x := range refs {
		if err := a.Free(x); err != nil {
			t.Fatalf("Free of %v: %v", x, err)
		}
	}
}

// allocFails asks that no record can be put in, and that this changes nothing.
func allocFails(t *testing.T, a *arena.Arena, want api.Code) {
	t.Helper()
	live, left := a.Live(), a.Left()
	for range 2 {
		x, err := a.Alloc(record(0))
		if x != (api.Ref{}) || code(err) != want {
			t.Fatalf("Alloc is %v, %v, not %v", x, err, want)
		}
	}
	holds(t, a, left, live...)
}

// fails asks that a ref is neither loaded nor freed, and that this changes nothing.
func fails(t *testing.T, a *arena.Arena, x api.Ref, want api.Code) {
	t.Helper()
	live, left := a.Live(), a.Left()
	if r, err := a.Load(x); !same(r, api.Record{}) || code(err) != want {
		t.Fatalf("Load of %v is %v, %v, not %v", x, r, err, want)
	}
	if err := a.Free(x); code(err) != want {
		t.Fatalf("Free of %v is %v, not %v", x, err, want)
	}
	holds(t, a, left, live...)
}

// holds asks which refs are live, and how many slots are left.
func holds(t *testing.T, a *arena.Arena, left int, live ...api.Ref) {
	t.Helper()
	if got := a.Live(); !slices.Equal(got, live) {
		t.Fatalf("Live is %v, not %v", got, live)
	}
	if got := a.Left(); got != left {
		t.Fatalf("Left is %d, not %d", got, left)
	}
}

// P4.1, New.

func TestNew(t *testing.T) {
	for _, c := range []struct {
		slots, last int
		want        bool
	}{
		{1, 1, true},
		{2, 3, true},
		{1, api.MaxCount, true},
		{api.MaxSlots, 1, true},
		{api.MaxSlots, api.MaxCount, true},
		{0, 1, false},
		{-1, 1, false},
		{math.MinInt, 1, false},
		{api.MaxSlots + 1, 1, false},
		{math.MaxInt, 1, false},
		{1, 0, false},
		{1, -1, false},
		{1, math.MinInt, false},
		{1, api.MaxCount + 1, false},
		{1, math.MaxInt, false},
		{0, 0, false},
		{math.MaxInt, math.MaxInt, false},
		{api.MaxSlots + 1, api.MaxCount + 1, false},
	} {
		a := arena.New(c.slots, c.last)
		if (a != nil) != c.want {
			t.Errorf("New(%d, %d) is %v", c.slots, c.last, a)
		}
		if a != nil {
			holds(t, a, c.slots)
		}
	}
}

func TestNewHasFreeSlotsOfGeneration0(t *testing.T) {
	a := made(t, 3, 2)
	for slot := 1; slot <= 3; slot++ {
		fails(t, a, ref(slot, 0), api.ErrStale)
		fails(t, a, ref(slot, 1), api.ErrStale)
	}
	allocates(t, a, ref(1, 1), ref(2, 1), ref(3, 1))
}

// P4.1, Alloc.

func TestExample1(t *testing.T) {
	a := made(t, 4, 4)
	allocates(t, a, ref(1, 1))
	frees(t, a, ref(1, 1))
	allocates(t, a, ref(1, 2))
}

func TestAllocTakesTheLowestFreeSlot(t *testing.T) {
	a := made(t, 4, 9)
	allocates(t, a, ref(1, 1), ref(2, 1), ref(3, 1))
	frees(t, a, ref(3, 1), ref(1, 1))
	allocates(t, a, ref(1, 2), ref(3, 2), ref(4, 1))
	frees(t, a, ref(2, 1), ref(4, 1), ref(3, 2))
	allocates(t, a, ref(2, 2))
	frees(t, a, ref(2, 2))
	allocates(t, a, ref(2, 3), ref(3, 3), ref(4, 2))
	holds(t, a, 0, ref(1, 2), ref(2, 3), ref(3, 3), ref(4, 2))
}

func TestAllocInAFullArena(t *testing.T) {
	a := made(t, 2, 9)
	allocates(t, a, ref(1, 1), ref(2, 1))
	allocFails(t, a, api.ErrFull)
	frees(t, a, ref(2, 1))
	allocates(t, a, ref(2, 2))
	allocFails(t, a, api.ErrFull)
}

func TestAllocInTheGreatestArena(t *testing.T) {
	a := made(t, api.MaxSlots, api.MaxCount)
	for slot := 1; slot <= api.MaxSlots; slot++ {
		allocates(t, a, ref(slot, 1))
	}
	allocFails(t, a, api.ErrFull)
	if live := a.Live(); len(live) != api.MaxSlots || live[api.MaxSlots-1] != ref(api.MaxSlots, 1) {
		t.Errorf("%d refs are live", len(live))
	}
	fails(t, a, ref(api.MaxSlots+1, 1), api.ErrArg)
	frees(t, a, ref(api.MaxSlots, 1))
	allocates(t, a, ref(api.MaxSlots, 2))
}

func TestAllocWhenAllFreeSlotsAreWornOut(t *testing.T) {
	a := made(t, 2, 1)
	allocates(t, a, ref(1, 1), ref(2, 1))
	allocFails(t, a, api.ErrFull) // the last generation, but not free
	frees(t, a, ref(2, 1))
	allocFails(t, a, api.ErrExhausted)
	holds(t, a, 0, ref(1, 1))
	frees(t, a, ref(1, 1))
	allocFails(t, a, api.ErrExhausted)
	holds(t, a, 0)
}

func TestAllocWhenSomeFreeSlotsAreWornOut(t *testing.T) {
	a := made(t, 3, 2)
	allocates(t, a, ref(1, 1), ref(2, 1), ref(3, 1))
	frees(t, a, ref(1, 1))
	allocates(t, a, ref(1, 2))
	frees(t, a, ref(1, 2), ref(3, 1)) // slot 1 is worn out, slot 3 is not
	holds(t, a, 1, ref(2, 1))
	allocates(t, a, ref(3, 2))
	allocFails(t, a, api.ErrExhausted)
	frees(t, a, ref(2, 1))
	allocates(t, a, ref(2, 2))
	frees(t, a, ref(3, 2))
	allocFails(t, a, api.ErrExhausted)
	frees(t, a, ref(2, 2))
	allocFails(t, a, api.ErrExhausted)
	holds(t, a, 0)
}

func TestOneSlot(t *testing.T) {
	const last = 5
	a := made(t, 1, last)
	for gen := 1; gen <= last; gen++ {
		holds(t, a, 1)
		allocates(t, a, ref(1, gen))
		allocFails(t, a, api.ErrFull)
		fails(t, a, ref(1, gen-1), api.ErrStale)
		fails(t, a, ref(1, gen+1), api.ErrStale)
		frees(t, a, ref(1, gen))
	}
	allocFails(t, a, api.ErrExhausted)
	holds(t, a, 0)
}

func TestAllocOfAnyRecord(t *testing.T) {
	for _, r := range []api.Record{{}, full(), {Kind: -1, Rows: []api.Row{}, Entries: []api.Entry{}}} {
		a := made(t, 1, 1)
		x, err := a.Alloc(r)
		if x != ref(1, 1) || err != nil {
			t.Errorf("Alloc of %v is %v, %v", r, x, err)
		}
		if got, err := a.Load(x); !same(got, r) || err != nil {
			t.Errorf("%v is loaded as %v, %v", r, got, err)
		}
	}
}

// P4.1, Load and Free.

func TestLoad(t *testing.T) {
	a := made(t, 3, 9)
	allocates(t, a, ref(1, 1), ref(2, 1), ref(3, 1))
	for range 2 {
		for slot := 1; slot <= 3; slot++ {
			if r, err := a.Load(ref(slot, 1)); !same(r, record(slot)) || err != nil {
				t.Errorf("Load of slot %d is %v, %v", slot, r, err)
			}
		}
	}
	holds(t, a, 0, ref(1, 1), ref(2, 1), ref(3, 1))
}

func TestLoadOfASlotThatIsUsedAgain(t *testing.T) {
	a := made(t, 2, 9)
	for gen := 1; gen <= 3; gen++ {
		x, _ := a.Alloc(record(gen))
		if r, err := a.Load(x); x != ref(1, gen) || !same(r, record(gen)) || err != nil {
			t.Errorf("Load of %v is %v, %v", x, r, err)
		}
		for old := range gen {
			fails(t, a, ref(1, old), api.ErrStale)
		}
		frees(t, a, x)
		fails(t, a, x, api.ErrStale)
	}
}

func TestRefsOfNoSlot(t *testing.T) {
	a := made(t, 2, 9)
	for range 3 {
		for _, slot := range []int{0, -1, 3, api.MaxSlots, math.MinInt, math.MaxInt} {
			for _, gen := range []int{0, 1, -1, math.MinInt, math.MaxInt} {
				fails(t, a, ref(slot, gen), api.ErrArg)
			}
		}
		a.Alloc(record(0)) // and so of an arena that is not empty, and of a full one
	}
}

func TestRefsThatAreNotLive(t *testing.T) {
	a := made(t, 2, 3)
	allocates(t, a, ref(1, 1))
	frees(t, a, ref(1, 1))
	allocates(t, a, ref(1, 2))
	for _, x := range []api.Ref{
		ref(1, 0), ref(1, 1), ref(1, 3), ref(1, 4), ref(1, -1), ref(1, math.MinInt), ref(1, math.MaxInt),
		ref(2, 0), ref(2, 1), ref(2, 2), ref(2, -1), ref(2, math.MaxInt),
	} {
		fails(t, a, x, api.ErrStale)
	}
	if r, err := a.Load(ref(1, 2)); !same(r, record(1)) || err != nil {
		t.Errorf("the live one is %v, %v", r, err)
	}
}

func TestFreeTwice(t *testing.T) {
	a := made(t, 2, 9)
	allocates(t, a, ref(1, 1), ref(2, 1))
	frees(t, a, ref(1, 1))
	fails(t, a, ref(1, 1), api.ErrStale)
	holds(t, a, 1, ref(2, 1))
	allocates(t, a, ref(1, 2))
	fails(t, a, ref(1, 1), api.ErrStale) // the slot's next record stays
	holds(t, a, 0, ref(1, 2), ref(2, 1))
}

func TestFreeKeepsTheOthers(t *testing.T) {
	a := made(t, 3, 9)
	allocates(t, a, ref(1, 1), ref(2, 1), ref(3, 1))
	frees(t, a, ref(2, 1))
	holds(t, a, 1, ref(1, 1), ref(3, 1))
	for _, slot := range []int{1, 3} {
		if r, err := a.Load(ref(slot, 1)); !same(r, record(slot)) || err != nil {
			t.Errorf("slot %d is %v, %v", slot, r, err)
		}
	}
}

// P4.2, Live and Left.

func TestLiveAndLeft(t *testing.T) {
	a := made(t, 4, 2)
	holds(t, a, 4)
	allocates(t, a, ref(1, 1), ref(2, 1), ref(3, 1))
	holds(t, a, 1, ref(1, 1), ref(2, 1), ref(3, 1))
	frees(t, a, ref(1, 1))
	holds(t, a, 2, ref(2, 1), ref(3, 1))
	allocates(t, a, ref(1, 2)) // by slots, not in the order in which they came
	holds(t, a, 1, ref(1, 2), ref(2, 1), ref(3, 1))
	frees(t, a, ref(1, 2)) // worn out: it does not count
	holds(t, a, 1, ref(2, 1), ref(3, 1))
	frees(t, a, ref(3, 1))
	holds(t, a, 2, ref(2, 1))
	frees(t, a, ref(2, 1))
	holds(t, a, 3)
}

// P4.2, Copy.

func TestCopyHasTheSame(t *testing.T) {
	a := made(t, 4, 2)
	allocates(t, a, ref(1, 1), ref(2, 1), ref(3, 1))
	frees(t, a, ref(1, 1))
	allocates(t, a, ref(1, 2))
	frees(t, a, ref(1, 2), ref(2, 1))
	b := a.Copy()
	holds(t, b, 2, ref(3, 1))
	fails(t, b, ref(1, 2), api.ErrStale)
	fails(t, b, ref(2, 1), api.ErrStale)
	fails(t, b, ref(4, 0), api.ErrStale)
	fails(t, b, ref(5, 1), api.ErrArg)
	if r, err := b.Load(ref(3, 1)); !same(r, record(3)) || err != nil {
		t.Errorf("Load of the copy is %v, %v", r, err)
	}
	// Generations and the last one are the same as well.
	allocates(t, b, ref(2, 2), ref(4, 1))
	allocFails(t, b, api.ErrExhausted)
}

func TestCopyAndOriginalAreIndependent(t *testing.T) {
	original := made(t, 3, 9)
	allocates(t, original, ref(1, 1), ref(2, 1))
	for _, turned := range []bool{false, true} {
		a := original.Copy()
		b := a.Copy()
		if turned {
			a, b = b, a
		}
		frees(t, a, ref(1, 1))
		holds(t, b, 1, ref(1, 1), ref(2, 1))
		if r, err := b.Load(ref(1, 1)); !same(r, record(1)) || err != nil {
			t.Errorf("turned %v: what the other one freed is %v, %v", turned, r, err)
		}
		x, _ := a.Alloc(record(10))
		allocates(t, a, ref(3, 1))
		if x != ref(1, 2) {
			t.Errorf("turned %v: Alloc is %v", turned, x)
		}
		fails(t, b, ref(1, 2), api.ErrStale)
		fails(t, b, ref(3, 1), api.ErrStale)
		holds(t, b, 1, ref(1, 1), ref(2, 1))
		// The same ref may be of another record in the other one.
		y, _ := b.Alloc(record(20))
		if r, err := b.Load(y); y != ref(3, 1) || !same(r, record(20)) || err != nil {
			t.Errorf("turned %v: Load of %v is %v, %v", turned, y, r, err)
		}
		if r, err := a.Load(y); !same(r, record(3)) || err != nil {
			t.Errorf("turned %v: Load of %v in the other one is %v, %v", turned, y, r, err)
		}
	}
	holds(t, original, 1, ref(1, 1), ref(2, 1))
}

// P4.2, Clone.

func TestClone(t *testing.T) {
	for _, r := range []api.Record{
		{},
		full(),
		record(1),
		{Rows: []api.Row{}, Entries: []api.Entry{}},
		{Rows: make([]api.Row, 1000)},
		{Entries: make([]api.Entry, 1000)},
	} {
		if got := arena.Clone(r); !same(got, r) {
			t.Errorf("Clone of %v is %v", r, got)
		}
	}
}

func TestFullHasNoZeroField(t *testing.T) {
	v := reflect.ValueOf(full())
	for i := range v.NumField() {
		if v.Field(i).IsZero() {
			t.Errorf("no test tells whether %s is kept", v.Type().Field(i).Name)
		}
	}
}

// P4.2, a nil Arena; and one that is not from New.

func TestNilArena(t *testing.T) {
	var a *arena.Arena
	allocFails(t, a, api.ErrArg)
	for _, x := range []api.Ref{{}, ref(1, 0), ref(1, 1), ref(-1, -1), ref(math.MaxInt, math.MaxInt)} {
		fails(t, a, x, api.ErrArg)
	}
	holds(t, a, 0)
	if b := a.Copy(); b != nil {
		t.Errorf("Copy is %v", b)
	}
}

func TestZeroArenaDoesNotPanic(t *testing.T) {
	a := new(arena.Arena)
	for range 2 {
		a.Alloc(full())
		for _, x := range []api.Ref{{}, ref(1, 0), ref(1, 1), ref(-1, 1)} {
			a.Load(x)
			a.Free(x)
		}
		a.Live()
		a.Left()
		a = a.Copy()
	}
}

// What is handed in stays as it was, and what is handed out is new memory.

// roomy is a record whose lists have spare capacity that others may have something in.
func roomy() api.Record {
	r := full()
	r.Rows = append(r.Rows, api.Row{Key: "spare"}, api.Row{Key: "spare"})[:len(r.Rows)]
	r.Entries = append(r.Entries, api.Entry{Key: "spare"}, api.Entry{Key: "spare"})[:len(r.Entries)]
	return r
}

// whole is a record with what is in the spare capacity of its lists.
func whole(r api.Record) api.Record {
	r.Rows = slices.Clone(r.Rows[:cap(r.Rows)])
	r.Entries = slices.Clone(r.Entries[:cap(r.Entries)])
	return r
}

// overwrite puts other elements into a record's lists, and into their spare capacity.
func overwrite(r api.Record) {
	for i := range r.Rows[:cap(r.Rows)] {
		r.Rows[:cap(r.Rows)][i] = api.Row{Key: "over", Value: "written"}
	}
	for i := range r.Entries[:cap(r.Entries)] {
		r.Entries[:cap(r.Entries)][i] = api.Entry{Key: "over", Page: 77}
	}
}

func TestCloneSharesNoMemory(t *testing.T) {
	for _, empty := range []bool{false, true} {
		r := roomy()
		if empty {
			r.Rows, r.Entries = r.Rows[:0], r.Entries[:0]
		}
		was := whole(r)
		a, b := arena.Clone(r), arena.Clone(r)
		if !same(whole(r), was) {
			t.Errorf("Clone changed its argument to %v", whole(r))
		}
		aWas, bWas := whole(a), whole(b)
		overwrite(r)
		if !same(whole(a), aWas) || !same(whole(b), bWas) {
			t.Error("a change of the record is seen in a clone")
		}
		overwrite(a)
		if !same(whole(b), bWas) {
			t.Error("a change of a clone is seen in another one")
		}
		again := roomy()
		was = whole(again)
		overwrite(arena.Clone(again))
		if !same(whole(again), was) {
			t.Error("a change of a clone is seen in the record")
		}
	}
}

func TestAllocAndLoadShareNoMemory(t *testing.T) {
	a := made(t, 2, 9)
	r := roomy()
	was := whole(r)
	x, _ := a.Alloc(r)
	y, _ := a.Alloc(r)
	b := a.Copy()
	if !same(whole(r), was) {
		t.Errorf("Alloc changed its argument to %v", whole(r))
	}
	keep := func(what string) {
		t.Helper()
		for _, arena := range []*arena.Arena{a, b} {
			for _, z := range []api.Ref{x, y} {
				if got, err := arena.Load(z); !same(got, full()) || err != nil {
					t.Errorf("after a change of %s, %v is %v, %v", what, z, got, err)
				}
			}
		}
	}
	overwrite(r)
	keep("the argument")
	one, _ := a.Load(x)
	two, _ := a.Load(x)
	twoWas := whole(two)
	overwrite(one)
	if !same(whole(two), twoWas) {
		t.Error("two loads share memory")
	}
	keep("what was loaded")
	copied, _ := b.Load(x)
	overwrite(copied)
	keep("what was loaded from a copy")
}

func TestLiveSharesNoMemory(t *testing.T) {
	a := made(t, 5, 9)
	allocates(t, a, ref(1, 1), ref(2, 1), ref(3, 1))
	want := []api.Ref{ref(1, 1), ref(2, 1), ref(3, 1)}
	one, two := a.Live(), a.Live()
	twoWas := slices.Clone(two[:cap(two)])
	for i := range one[:cap(one)] {
		one[:cap(one)][i] = ref(9, 9)
	}
	if !slices.Equal(two[:cap(two)], twoWas) {
		t.Error("two results share memory")
	}
	holds(t, a, 2, want...)
	frees(t, a, ref(1, 1))
	if !slices.Equal(two, want) {
		t.Errorf("a result changed to %v", two)
	}
}

// P4.3.

// model is what an arena has to be like, told in another way: for each slot, all that was ever put into it.
type model struct {
	last int
	put  [][]int // by slot, then by generation: the number of the record
	live []bool  // by slot
}

// alloc is the ref that comes next, or a code.
func (m *model) alloc(n int) (api.Ref, api.Code) {
	if !slices.Contains(m.live, false) {
		return api.Ref{}, api.ErrFull
	}
	for i := range m.live {
		if !m.live[i] && len(m.put[i]) < m.last {
			m.live[i] = true
			m.put[i] = append(m.put[i], n)
			return ref(i+1, len(m.put[i])), 0
		}
	}
	return api.Ref{}, api.ErrExhausted
}

// isLive tells whether a ref of a slot is live.
func (m *model) isLive(x api.Ref) bool {
	return m.live[x.Slot-1] && len(m.put[x.Slot-1]) == x.Gen
}

// free makes a slot free if its ref is live.
func (m *model) free(x api.Ref) api.Code {
	if !m.isLive(x) {
		return api.ErrStale
	}
	m.live[x.Slot-1] = false
	return 0
}

// checkModel asks that all refs that may ever be are as in the model.
func checkModel(t *testing.T, name []int, a *arena.Arena, m *model) {
	t.Helper()
	var live []api.Ref
	left := 0
	for i := range m.live {
		if !m.live[i] && len(m.put[i]) < m.last {
			left++
		}
		for gen := range m.last + 2 {
			x := ref(i+1, gen)
			r, err := a.Load(x)
			if !m.isLive(x) {
				if !same(r, api.Record{}) || code(err) != api.ErrStale {
					t.Fatalf("%v: Load of %v is %v, %v", name, x, r, err)
				}
				continue
			}
			live = append(live, x)
			if err != nil || r.Right != m.put[i][gen-1] {
				t.Fatalf("%v: Load of %v is %v, %v", name, x, r, err)
			}
		}
	}
	if !slices.Equal(a.Live(), live) || a.Left() != left {
		t.Fatalf("%v: Live is %v and Left %d, not %v and %d", name, a.Live(), a.Left(), live, left)
	}
}

// runCalls makes calls of a new arena: each is 0 for an Alloc, or tells which ref to free.
func runCalls(t *testing.T, calls []int, slots, last int) {
	t.Helper()
	a := made(t, slots, last)
	m := &model{last: last, put: make([][]int, slots), live: make([]bool, slots)}
	given := map[api.Ref]int{}
	for n, c := range calls {
		if c > 0 {
			x := ref((c-1)/last+1, (c-1)%last+1)
			err := a.Free(x)
			if want := m.free(x); code(err) != want {
				t.Fatalf("%v: Free of %v is %v", calls[:n+1], x, err)
			}
		} else {
			x, err := a.Alloc(api.Record{Right: n + 1})
			want, wantCode := m.alloc(n + 1)
			given[x]++
			if x != want || code(err) != wantCode || err == nil && given[x] > 1 {
				t.Fatalf("%v: Alloc is %v, %v", calls[:n+1], x, err)
			}
		}
		checkModel(t, calls[:n+1], a, m)
	}
}

func TestAllShortSequencesOfCalls(t *testing.T) {
	for _, c := range []struct{ slots, last, length int }{
		{1, 1, 5}, {1, 3, 7}, {2, 1, 7}, {2, 2, 6}, {3, 1, 6}, {3, 2, 5},
	} {
		kinds := 1 + c.slots*c.last
		sequences := 1
		for range c.length {
			sequences *= kinds
		}
		for s := range sequences {
			var calls []int
			for range c.length {
				calls = append(calls, s%kinds)
				s /= kinds
			}
			runCalls(t, calls, c.slots, c.last)
		}
	}
}

func TestNoRefComesTwice(t *testing.T) {
	const slots, last = 5, 40
	a := made(t, slots, last)
	seen := map[api.Ref]bool{}
	for n := 0; a.Left() > 0; n++ {
		x, err := a.Alloc(record(n))
		if err != nil || seen[x] {
			t.Fatalf("Alloc is %v, %v; seen: %v", x, err, seen[x])
		}
		seen[x] = true
		live := a.Live()
		for i := 1; i < len(live); i++ {
			if live[i-1].Slot >= live[i].Slot {
				t.Fatalf("Live is %v", live)
			}
		}
		if len(live) == slots || n%3 == 0 {
			frees(t, a, live[n*7%len(live)])
		}
	}
	for _, x := range a.Live() {
		frees(t, a, x)
	}
	for a.Left() > 0 {
		x, err := a.Alloc(record(0))
		if err != nil || seen[x] {
			t.Fatalf("Alloc is %v, %v; seen: %v", x, err, seen[x])
		}
		seen[x] = true
		frees(t, a, x)
	}
	if len(seen) != slots*last {
		t.Errorf("%d refs were given, not %d", len(seen), slots*last)
	}
	for x := range seen {
		fails(t, a, x, api.ErrStale)
	}
	allocFails(t, a, api.ErrExhausted)
}
