package mem_test

import (
	"errors"
	"math"
	"reflect"
	"slices"
	"strings"
	"testing"

	"rowlock/api"
	"rowlock/arena"
	"rowlock/epoch"
	"rowlock/fault"
	"rowlock/mapping"
	"rowlock/mem"
)

// least and greatest are the least and the greatest limits that may be.
func least() api.Limits {
	return api.Limits{Slots: 4, Pages: 3, Threads: 1, Rows: 2, Chain: 2, Count: 8}
}

func greatest() api.Limits {
	return api.Limits{
		Slots: api.MaxSlots, Pages: api.MaxPages, Threads: api.MaxThreads,
		Rows: api.MaxRows, Chain: api.MaxChain, Count: api.MaxCount,
	}
}

// small is limits that are told from each other.
func small() api.Limits {
	return api.Limits{Slots: 5, Pages: 4, Threads: 3, Rows: 6, Chain: 7, Count: 9}
}

// code is the code of an error, or 0.
func code(err error) api.Code {
	var c api.Code
	errors.As(err, &c)
	return c
}

func ref(slot, gen int) api.Ref { return api.Ref{Slot: slot, Gen: gen} }

// numbers is numbers that a slot, a generation, a page or a thread may be asked with.
func numbers() []int {
	return []int{0, 1, 2, 3, 4, 5, 6, 9, -1, 1000, math.MinInt, math.MaxInt}
}

// made is a new memory.
func made(t *testing.T, l api.Limits) *mem.Memory {
	t.Helper()
	m, err := mem.New(l)
	if m == nil || err != nil {
		t.Fatalf("New of %+v is %v, %v", l, m, err)
	}
	return m
}

// base is the record with which every memory begins.
func base() api.Record { return api.Record{Kind: api.LeafBase, Unbounded: true} }

// put is a record of a key in front of another one.
func put(key string, next api.Ref) api.Record {
	return api.Record{Kind: api.LeafPut, Key: key, Next: next}
}

// full is a record none of whose fields is zero, with spare capacity in its lists.
func full() api.Record {
	return api.Record{
		Kind: 99, Low: "low", High: "high", Unbounded: true, Right: -1,
		Rows:    append(make([]api.Row, 0, 5), api.Row{Key: "b", Value: "1"}, api.Row{Key: "a"}),
		Entries: append(make([]api.Entry, 0, 5), api.Entry{Key: "c", Page: 1 << 40}, api.Entry{Page: -1}),
		Key:     strings.Repeat("k", 100), Value: "value", Page: -2,
		Hold: api.Hold{Page: 3, Left: 4, Key: "hold"},
		Next: ref(1, 1),
	}
}

// same tells whether two records are equal; a list without elements is like none.
func same(a, b api.Record) bool {
	if !slices.Equal(a.Rows, b.Rows) || !slices.Equal(a.Entries, b.Entries) {
		return false
	}
	a.Rows, a.Entries, b.Rows, b.Entries = nil, nil, nil, nil
	return reflect.DeepEqual(a, b)
}

// allocates asks for the ref that a record gets.
func allocates(t *testing.T, m *mem.Memory, r api.Record, want api.Ref) {
	t.Helper()
	if x, err := m.Alloc(r); x != want || err != nil {
		t.Fatalf("Alloc is %v, %v, not %v", x, err, want)
	}
}

// swaps asks that a page gets another head.
func swaps(t *testing.T, m *mem.Memory, page int, old, new api.Ref) {
	t.Helper()
	if ok, err := m.Swap(page, old, new); !ok || err != nil {
		t.Fatalf("Swap(%d, %v, %v) is %v, %v", page, old, new, ok, err)
	}
}

// does asks that a call has no error.
func does(t *testing.T, err error) {
	t.Helper()
	if err != nil {
		t.Fatal(err)
	}
}

// faulty asks that an error is a code in just one fault, with its place and slot.
func faulty(t *testing.T, name string, err error, place string, slot int, want api.Code) {
	t.Helper()
	f, ok := err.(*api.Fault)
	if !ok || f.Place != place || f.Slot != slot || f.Err != error(want) {
		t.Errorf("%s: the error is %#v, not %v of %s %d", name, err, want, place, slot)
	}
	if !errors.Is(err, want) {
		t.Errorf("%s: errors.Is does not find %v in %v", name, want, err)
	}
}

// bare asks that an error is a code, without a fault around it.
func bare(t *testing.T, name string, err error, want api.Code) {
	t.Helper()
	if err != error(want) {
		t.Errorf("%s: the error is %#v, not %v", name, err, want)
	}
}

// counts asks how many accesses there were.
func counts(t *testing.T, m *mem.Memory, want int) {
	t.Helper()
	if n := m.Count(); n != want {
		t.Fatalf("Count is %d, not %d", n, want)
	}
}

// holds asks which refs are live, and which pages are used.
func holds(t *testing.T, m *mem.Memory, live []api.Ref, pages []int) {
	t.Helper()
	if got := m.Live(); !slices.Equal(got, live) {
		t.Fatalf("Live is %v, not %v", got, live)
	}
	if got := m.Pages(); !slices.Equal(got, pages) {
		t.Fatalf("Pages is %v, not %v", got, pages)
	}
}

// chains asks for the refs of a page's chain, and that its records are those that are loaded.
func chains(t *testing.T, m *mem.Memory, page int, want ...api.Ref) {
	t.Helper()
	records, refs, err := m.Chain(page)
	if err != nil || !slices.Equal(refs, want) || len(records) != len(want) {
		t.Fatalf("Chain(%d) is %v, %v, %v, not %v", page, records, refs, err, want)
	}
	c := m.Copy() // so that the loads are not counted
	for i, x := range want {
		if r, err := c.Load(x); !same(r, records[i]) || err != nil {
			t.Fatalf("record %d of Chain(%d) is %v, but %v is %v, %v", i, page, records[i], x, r, err)
		}
	}
}

// chainFails asks that a page has no chain, with nothing beside the error, which is returned.
func chainFails(t *testing.T, m *mem.Memory, page int) error {
	t.Helper()
	records, refs, err := m.Chain(page)
	if len(records) != 0 || len(refs) != 0 || err == nil {
		t.Errorf("Chain(%d) is %v, %v, %v", page, records, refs, err)
	}
	return err
}

// P9.1, Right and New.

// limit is one of the limits, by its name and bounds.
type limit struct {
	name            string
	least, greatest int
	set             func(l *api.Limits, n int)
}

func limits() []limit {
	return []limit{
		{"Slots", 4, 4096, func(l *api.Limits, n int) { l.Slots = n }},
		{"Pages", 3, 256, func(l *api.Limits, n int) { l.Pages = n }},
		{"Threads", 1, 64, func(l *api.Limits, n int) { l.Threads = n }},
		{"Rows", 2, 64, func(l *api.Limits, n int) { l.Rows = n }},
		{"Chain", 2, 64, func(l *api.Limits, n int) { l.Chain = n }},
		{"Count", 8, 1 << 40, func(l *api.Limits, n int) { l.Count = n }},
	}
}

// valid asks whether limits may be, and whether there is a memory of them.
func valid(t *testing.T, name string, l api.Limits, want bool) {
	t.Helper()
	if mem.Right(l) != want {
		t.Errorf("%s: Right of %+v is not %v", name, l, want)
	}
	m, err := mem.New(l)
	if !want {
		if m != nil {
			t.Errorf("%s: New of %+v is a memory", name, l)
		}
		bare(t, name, err, api.ErrArg)
		return
	}
	if m == nil || err != nil || m.Limits() != l {
		t.Errorf("%s: New of %+v is %v, %v", name, l, m, err)
	}
}

func TestLimits(t *testing.T) {
	for _, l := range []api.Limits{least(), small(), greatest()} {
		valid(t, "all", l, true)
		for _, x := range limits() {
			for _, n := range []int{
				x.least, x.least + 1, x.greatest - 1, x.greatest,
				x.least - 1, x.greatest + 1, 0, -1, -x.least, math.MinInt, math.MaxInt,
			} {
				changed := l
				x.set(&changed, n)
				valid(t, x.name, changed, x.least <= n && n <= x.greatest)
			}
		}
	}
}

func TestLimitsThatAreAllWrong(t *testing.T) {
	for _, n := range []int{0, -1, 1 << 41, math.MinInt, math.MaxInt} {
		valid(t, "all", api.Limits{Slots: n, Pages: n, Threads: n, Rows: n, Chain: n, Count: n}, false)
	}
}

func TestLimitsAreKept(t *testing.T) {
	m := made(t, small())
	m.Alloc(put("a", ref(1, 1)))
	m.Take()
	m.Bump()
	if l := m.Limits(); l != small() {
		t.Errorf("Limits is %+v", l)
	}
}

func TestExample1(t *testing.T) {
	m := made(t, small())
	records, refs, err := m.Chain(0)
	if err != nil || len(records) != 1 || len(refs) != 1 {
		t.Fatalf("Chain is %v, %v, %v", records, refs, err)
	}
	if !same(records[0], base()) {
		t.Errorf("the record is %+v", records[0])
	}
	counts(t, m, 0)
}

func TestNewIsInItsInitialState(t *testing.T) {
	for _, l := range []api.Limits{least(), small(), greatest()} {
		m := made(t, l)
		counts(t, m, 0)
		holds(t, m, []api.Ref{ref(1, 1)}, []int{0})
		if x, err := m.Head(0); x != ref(1, 1) || err != nil {
			t.Errorf("Head is %v, %v", x, err)
		}
		if r, err := m.Load(ref(1, 1)); !same(r, base()) || err != nil {
			t.Errorf("Load is %+v, %v", r, err)
		}
		if n := m.Now(); n != 1 {
			t.Errorf("Now is %d", n)
		}
		for thread := range l.Threads {
			if at, in, err := m.At(thread); at != 0 || in || err != nil {
				t.Errorf("At(%d) is %d, %v, %v", thread, at, in, err)
			}
		}
	}
}

func TestNewsAreIndependent(t *testing.T) {
	a, b := made(t, small()), made(t, small())
	allocates(t, a, put("a", ref(1, 1)), ref(2, 1))
	swaps(t, a, 0, ref(1, 1), ref(2, 1))
	a.Take()
	a.Bump()
	counts(t, b, 0)
	holds(t, b, []api.Ref{ref(1, 1)}, []int{0})
	chains(t, b, 0, ref(1, 1))
	if n := b.Now(); n != 1 {
		t.Errorf("Now is %d", n)
	}
}

// A memory has as much as its limits say, and no more.

func TestSlotsAndGenerations(t *testing.T) {
	for _, l := range []api.Limits{least(), small()} {
		m := made(t, l)
		for slot := 2; slot <= l.Slots; slot++ {
			allocates(t, m, full(), ref(slot, 1))
		}
		_, err := m.Alloc(full())
		faulty(t, "Alloc", err, "arena", 0, api.ErrFull)
		for gen := 1; gen < l.Count; gen++ {
			does(t, m.Free(ref(3, gen)))
			allocates(t, m, full(), ref(3, gen+1))
		}
		does(t, m.Free(ref(3, l.Count)))
		x, err := m.Alloc(full())
		if x != (api.Ref{}) {
			t.Errorf("Alloc is %v", x)
		}
		faulty(t, "Alloc", err, "arena", 0, api.ErrExhausted)
	}
}

func TestPagesOfATable(t *testing.T) {
	for _, l := range []api.Limits{least(), small(), greatest()} {
		m := made(t, l)
		for page := 1; page < l.Pages; page++ {
			if n, err := m.Take(); n != page || err != nil {
				t.Fatalf("Take is %d, %v, not %d", n, err, page)
			}
		}
		n, err := m.Take()
		if n != 0 {
			t.Errorf("Take is %d", n)
		}
		faulty(t, "Take", err, "table", 0, api.ErrFull)
		_, err = m.Head(l.Pages)
		faulty(t, "Head", err, "table", l.Pages, api.ErrArg)
	}
}

func TestTheClockEndsAtCount(t *testing.T) {
	for _, l := range []api.Limits{least(), small()} {
		m := made(t, l)
		for want := 2; want <= l.Count; want++ {
			if n, err := m.Bump(); n != want || err != nil {
				t.Fatalf("Bump is %d, %v, not %d", n, err, want)
			}
		}
		for range 2 {
			n, err := m.Bump()
			if n != l.Count || m.Now() != l.Count {
				t.Errorf("Bump at the end is %d, and Now is %d", n, m.Now())
			}
			faulty(t, "Bump", err, "clock", 0, api.ErrExhausted)
		}
	}
}

func TestThreadsOfAClock(t *testing.T) {
	for _, l := range []api.Limits{least(), small(), greatest()} {
		m := made(t, l)
		for n := range l.Threads {
			does(t, m.Enter(n, 1))
		}
		faulty(t, "Enter", m.Enter(l.Threads, 1), "clock", l.Threads, api.ErrArg)
		faulty(t, "Leave", m.Leave(l.Threads), "clock", l.Threads, api.ErrArg)
		_, _, err := m.At(l.Threads)
		faulty(t, "At", err, "clock", l.Threads, api.ErrArg)
	}
}

// P9.1, the accesses, each with its errors.

func TestArena(t *testing.T) {
	m := made(t, small())
	allocates(t, m, full(), ref(2, 1))
	if r, err := m.Load(ref(2, 1)); !same(r, full()) || err != nil {
		t.Errorf("Load is %+v, %v", r, err)
	}
	does(t, m.Free(ref(2, 1)))
	allocates(t, m, put("a", ref(1, 1)), ref(2, 2))
	if r, err := m.Load(ref(2, 2)); !same(r, put("a", ref(1, 1))) || err != nil {
		t.Errorf("Load is %+v, %v", r, err)
	}
	holds(t, m, []api.Ref{ref(1, 1), ref(2, 2)}, []int{0})
}

func TestErrorsOfTheArena(t *testing.T) {
	m := made(t, small())
	allocates(t, m, full(), ref(2, 1))
	does(t, m.Free(ref(2, 1)))
	for _, slot := range numbers() {
		for _, gen := range numbers() {
			x := ref(slot, gen)
			if x == ref(1, 1) {
				continue
			}
			want := api.ErrStale
			if slot < 1 || slot > 5 {
				want = api.ErrArg
			}
			r, err := m.Load(x)
			if !same(r, api.Record{}) {
				t.Errorf("Load of %v is %+v", x, r)
			}
			faulty(t, "Load", err, "arena", slot, want)
			faulty(t, "Free", m.Free(x), "arena", slot, want)
		}
	}
	holds(t, m, []api.Ref{ref(1, 1)}, []int{0})
	counts(t, m, 2+2*(len(numbers())*len(numbers())-1))
}

func TestTable(t *testing.T) {
	m := made(t, small())
	if n, err := m.Take(); n != 1 || err != nil {
		t.Errorf("Take is %d, %v", n, err)
	}
	if x, err := m.Head(1); x != (api.Ref{}) || err != nil {
		t.Errorf("Head is %v, %v", x, err)
	}
	swaps(t, m, 1, api.Ref{}, ref(7, 7))
	if ok, err := m.Swap(1, api.Ref{}, ref(8, 8)); ok || err != nil {
		t.Errorf("Swap of another head is %v, %v", ok, err)
	}
	if x, err := m.Head(1); x != ref(7, 7) || err != nil {
		t.Errorf("Head is %v, %v", x, err)
	}
	swaps(t, m, 1, ref(7, 7), ref(9, 9))
	holds(t, m, []api.Ref{ref(1, 1)}, []int{0, 1})
	does(t, m.Give(1))
	holds(t, m, []api.Ref{ref(1, 1)}, []int{0})
	counts(t, m, 7)
}

func TestErrorsOfTheTable(t *testing.T) {
	m := made(t, small())
	for _, page := range numbers() {
		if page == 0 {
			continue
		}
		want := api.ErrNone
		if page < 0 || page > 3 {
			want = api.ErrArg
		}
		x, err := m.Head(page)
		if x != (api.Ref{}) {
			t.Errorf("Head(%d) is %v", page, x)
		}
		faulty(t, "Head", err, "table", page, want)
		ok, err := m.Swap(page, api.Ref{}, ref(1, 1))
		if ok {
			t.Errorf("Swap(%d) is true", page)
		}
		faulty(t, "Swap", err, "table", page, want)
		faulty(t, "Give", m.Give(page), "table", page, want)
	}
	holds(t, m, []api.Ref{ref(1, 1)}, []int{0})
	counts(t, m, 3*(len(numbers())-1))
}

func TestClock(t *testing.T) {
	m := made(t, small())
	if n, err := m.Bump(); n != 2 || err != nil {
		t.Errorf("Bump is %d, %v", n, err)
	}
	does(t, m.Enter(1, 2))
	does(t, m.Enter(2, 1))
	for thread, want := range []int{0, 2, 1} {
		if at, in, err := m.At(thread); at != want || in != (want != 0) || err != nil {
			t.Errorf("At(%d) is %d, %v, %v", thread, at, in, err)
		}
	}
	does(t, m.Leave(1))
	if at, in, err := m.At(1); at != 0 || in || err != nil {
		t.Errorf("At of a thread that left is %d, %v, %v", at, in, err)
	}
	if n := m.Now(); n != 2 {
		t.Errorf("Now is %d", n)
	}
	counts(t, m, 9)
}

func TestErrorsOfTheClock(t *testing.T) {
	m := made(t, small())
	does(t, m.Enter(1, 1))
	for _, at := range numbers() {
		faulty(t, "Enter of a thread inside", m.Enter(1, at), "clock", 1, api.ErrState)
		if at != 1 {
			faulty(t, "Enter at such a number", m.Enter(2, at), "clock", 2, api.ErrRange)
		}
	}
	faulty(t, "Leave of a thread outside", m.Leave(2), "clock", 2, api.ErrState)
	for _, thread := range numbers() {
		if thread >= 0 && thread < 3 {
			continue
		}
		faulty(t, "Enter", m.Enter(thread, 1), "clock", thread, api.ErrArg)
		faulty(t, "Leave", m.Leave(thread), "clock", thread, api.ErrArg)
		at, in, err := m.At(thread)
		if at != 0 || in {
			t.Errorf("At(%d) is %d, %v", thread, at, in)
		}
		faulty(t, "At", err, "clock", thread, api.ErrArg)
	}
	if at, in, err := m.At(1); at != 1 || !in || err != nil {
		t.Errorf("At(1) is %d, %v, %v", at, in, err)
	}
}

// P9.1 and P9.3: all short sequences of accesses, beside the same calls of an arena, a table and a clock.

// parts is what a memory is made of.
type parts struct {
	arena *arena.Arena
	table *mapping.Table
	clock *epoch.Clock
}

// initial is parts as they are in a new memory.
func initial(l api.Limits) *parts {
	p := &parts{arena.New(l.Slots, l.Count), mapping.New(l.Pages), epoch.New(l.Threads, l.Count)}
	p.table.Take()
	x, _ := p.arena.Alloc(base())
	p.table.Swap(0, api.Ref{}, x)
	return p
}

// answer is what a call returned: the results that it has, and zero values for the others.
type answer struct {
	record api.Record
	ref    api.Ref
	number int
	ok     bool
	err    error
}

// access is a call of a memory, the same call of one of its parts, and what a fault of it says.
type access struct {
	name  string
	place string
	slot  int
	whole func(m *mem.Memory) answer
	part  func(p *parts) answer
}

// accesses is one access of each kind, with given arguments.
func accesses(x, y api.Ref, page, thread, at int) []access {
	return []access{
		{"Load", "arena", x.Slot,
			func(m *mem.Memory) (a answer) { a.record, a.err = m.Load(x); return },
			func(p *parts) (a answer) { a.record, a.err = p.arena.Load(x); return }},
		{"Alloc", "arena", 0,
			func(m *mem.Memory) (a answer) { a.ref, a.err = m.Alloc(put("a", x)); return },
			func(p *parts) (a answer) { a.ref, a.err = p.arena.Alloc(put("a", x)); return }},
		{"Free", "arena", x.Slot,
			func(m *mem.Memory) (a answer) { a.err = m.Free(x); return },
			func(p *parts) (a answer) { a.err = p.arena.Free(x); return }},
		{"Head", "table", page,
			func(m *mem.Memory) (a answer) { a.ref, a.err = m.Head(page); return },
			func(p *parts) (a answer) { a.ref, a.err = p.table.Head(page); return }},
		{"Swap", "table", page,
			func(m *mem.Memory) (a answer) { a.ok, a.err = m.Swap(page, x, y); return },
			func(p *parts) (a answer) { a.ok, a.err = p.table.Swap(page, x, y); return }},
		{"Take", "table", 0,
			func(m *mem.Memory) (a answer) { a.number, a.err = m.Take(); return },
			func(p *parts) (a answer) { a.number, a.err = p.table.Take(); return }},
		{"Give", "table", page,
			func(m *mem.Memory) (a answer) { a.err = m.Give(page); return },
			func(p *parts) (a answer) { a.err = p.table.Give(page); return }},
		{"Now", "", 0,
			func(m *mem.Memory) (a answer) { a.number = m.Now(); return },
			func(p *parts) (a answer) { a.number = p.clock.Now(); return }},
		{"Bump", "clock", 0,
			func(m *mem.Memory) (a answer) { a.number, a.err = m.Bump(); return },
			func(p *parts) (a answer) { a.number, a.err = p.clock.Bump(); return }},
		{"Enter", "clock", thread,
			func(m *mem.Memory) (a answer) { a.err = m.Enter(thread, at); return },
			func(p *parts) (a answer) { a.err = p.clock.Enter(thread, at); return }},
		{"Leave", "clock", thread,
			func(m *mem.Memory) (a answer) { a.err = m.Leave(thread); return },
			func(p *parts) (a answer) { a.err = p.clock.Leave(thread); return }},
		{"At", "clock", thread,
			func(m *mem.Memory) (a answer) { a.number, a.ok, a.err = m.At(thread); return },
			func(p *parts) (a answer) { a.number, a.ok, a.err = p.clock.At(thread); return }},
	}
}

// makes makes an access of a memory and of its parts, and asks that they answer the same, and that it was counted.
func makes(t *testing.T, m *mem.Memory, p *parts, x access) {
	t.Helper()
	n := m.Count()
	got, want := x.whole(m), x.part(p)
	if want.err != nil {
		want.err = &api.Fault{Place: x.place, Slot: x.slot, Err: want.err}
	}
	if !same(got.record, want.record) || !reflect.DeepEqual(got.err, want.err) ||
		got.ref != want.ref || got.number != want.number || got.ok != want.ok {
		t.Fatalf("%s is %+v, not %+v", x.name, got, want)
	}
	if m.Count() != n+1 {
		t.Fatalf("%s is %d accesses", x.name, m.Count()-n)
	}
}

// agrees asks that a memory has the same as its parts.
func agrees(t *testing.T, m *mem.Memory, p *parts, l api.Limits) {
	t.Helper()
	holds(t, m, p.arena.Live(), p.table.Pages())
	c := m.Copy() // so that the accesses are not counted
	for _, x := range p.arena.Live() {
		makes(t, c, p, accesses(x, api.Ref{}, 0, 0, 0)[0])
	}
	for _, page := range p.table.Pages() {
		makes(t, c, p, accesses(api.Ref{}, api.Ref{}, page, 0, 0)[3])
	}
	for thread := range l.Threads {
		makes(t, c, p, accesses(api.Ref{}, api.Ref{}, 0, thread, 0)[11])
	}
	makes(t, c, p, accesses(api.Ref{}, api.Ref{}, 0, 0, 0)[7])
}

// many is accesses with several arguments, so that each kind succeeds, and fails in each way.
func many() []access {
	l := accesses(ref(1, 1), ref(2, 1), 0, 0, 1)
	l = append(l, accesses(ref(2, 1), ref(1, 1), 1, 0, 2)...)
	l = append(l, accesses(ref(9, -1), api.Ref{}, -1, 7, 0)...)
	return l
}

func TestAllShortSequencesOfAccesses(t *testing.T) {
	l := least()
	kinds := many()
	for _, x := range kinds {
		for _, y := range kinds {
			for _, z := range kinds {
				m, p := made(t, l), initial(l)
				makes(t, m, p, x)
				makes(t, m, p, y)
				makes(t, m, p, z)
				counts(t, m, 3)
				agrees(t, m, p, l)
				counts(t, m, 3)
			}
		}
	}
}

func TestEachAccessManyTimes(t *testing.T) {
	l := least()
	for _, x := range many() {
		m, p := made(t, l), initial(l)
		for range 40 { // beyond the end of each counter
			makes(t, m, p, x)
		}
		counts(t, m, 40)
		agrees(t, m, p, l)
		for _, y := range many() {
			makes(t, m, p, y)
		}
		agrees(t, m, p, l)
	}
}

func TestAlternatingAccesses(t *testing.T) {
	l := least()
	m, p := made(t, l), initial(l)
	n := 0
	for gen := range 12 {
		for slot := range 6 {
			for _, x := range accesses(ref(slot, gen), ref(1, gen), slot-1, gen%3-1, gen) {
				makes(t, m, p, x)
				n++
			}
		}
		agrees(t, m, p, l)
	}
	counts(t, m, n)
}

// P9.3, what is not counted.

func TestOthersAreNoAccesses(t *testing.T) {
	m := made(t, small())
	m.Take()
	m.Swap(1, api.Ref{}, ref(9, 9))
	counts(t, m, 2)
	for range 3 {
		m.Limits()
		m.Count()
		m.Live()
		m.Pages()
		m.Copy()
		for page := -1; page < 6; page++ {
			m.Chain(page)
		}
		counts(t, m, 2)
	}
}

func TestErrorsAreCounted(t *testing.T) {
	m := made(t, small())
	failing := accesses(ref(9, 9), api.Ref{}, 9, 9, 9)
	want := 0
	for _, x := range failing {
		switch x.name {
		case "Alloc", "Take", "Now", "Bump": // these have other errors
			continue
		}
		if a := x.whole(m); a.err == nil {
			t.Errorf("%s has no error", x.name)
		}
		want++
		counts(t, m, want)
	}
	for range small().Count {
		m.Bump()
	}
	n := m.Count()
	if _, err := m.Bump(); err == nil {
		t.Error("Bump has no error")
	}
	counts(t, m, n+1)
}

// P9.2, Live and Pages.

func TestLiveAndPages(t *testing.T) {
	m := made(t, small())
	for slot := 2; slot <= 4; slot++ {
		allocates(t, m, full(), ref(slot, 1))
	}
	for range 3 {
		m.Take()
	}
	does(t, m.Free(ref(2, 1)))
	does(t, m.Give(2))
	holds(t, m, []api.Ref{ref(1, 1), ref(3, 1), ref(4, 1)}, []int{0, 1, 3})
	allocates(t, m, full(), ref(2, 2))
	m.Take()
	holds(t, m, []api.Ref{ref(1, 1), ref(2, 2), ref(3, 1), ref(4, 1)}, []int{0, 1, 2, 3})
	for _, x := range m.Live() {
		does(t, m.Free(x))
	}
	for _, page := range m.Pages() {
		does(t, m.Give(page))
	}
	holds(t, m, nil, nil)
}

// P9.2, Chain.

// stack puts records with keys on page 0, one on the other, and returns all refs, the newest first.
func stack(t *testing.T, m *mem.Memory, keys ...string) []api.Ref {
	t.Helper()
	head, err := m.Head(0)
	if err != nil {
		t.Fatal(err)
	}
	refs := []api.Ref{head}
	for _, k := range keys {
		x, err := m.Alloc(put(k, head))
		if err != nil {
			t.Fatal(err)
		}
		swaps(t, m, 0, head, x)
		head = x
		refs = append([]api.Ref{x}, refs...)
	}
	return refs
}

func TestChainIsTheNewestFirst(t *testing.T) {
	m := made(t, small())
	refs := stack(t, m, "a", "b", "c")
	records, got, err := m.Chain(0)
	if err != nil || !slices.Equal(got, refs) || len(records) != 4 {
		t.Fatalf("Chain is %v, %v, %v", records, got, err)
	}
	for i, want := range []api.Record{put("c", refs[1]), put("b", refs[2]), put("a", refs[3]), base()} {
		if !same(records[i], want) {
			t.Errorf("record %d is %+v", i, records[i])
		}
	}
	chains(t, m, 0, ref(4, 1), ref(3, 1), ref(2, 1), ref(1, 1))
}

func TestChainOfAnyRecords(t *testing.T) {
	m := made(t, small())
	allocates(t, m, full(), ref(2, 1))
	m.Take()
	swaps(t, m, 1, api.Ref{}, ref(2, 1))
	chains(t, m, 1, ref(2, 1), ref(1, 1)) // one that ends in that of another page
	chains(t, m, 0, ref(1, 1))
	allocates(t, m, api.Record{}, ref(3, 1))
	m.Take()
	swaps(t, m, 2, api.Ref{}, ref(3, 1))
	chains(t, m, 2, ref(3, 1))
}

func TestChainOfAPageWithoutHead(t *testing.T) {
	m := made(t, small())
	m.Take()
	chains(t, m, 1)
}

func TestChainOfNoPage(t *testing.T) {
	m := made(t, small())
	for _, page := range numbers() {
		switch {
		case page == 0:
		case page > 0 && page < 4:
			faulty(t, "a free page", chainFails(t, m, page), "table", page, api.ErrNone)
		default:
			faulty(t, "no page", chainFails(t, m, page), "table", page, api.ErrArg)
		}
	}
}

func TestChainWithARecordThatCannotBeLoaded(t *testing.T) {
	for _, x := range []struct {
		next api.Ref
		want api.Code
	}{
		{ref(5, 1), api.ErrStale},
		{ref(1, 0), api.ErrStale},
		{ref(1, 2), api.ErrStale},
		{ref(2, math.MaxInt), api.ErrStale},
		{ref(0, 1), api.ErrArg}, // no slot, and yet not the zero ref
		{ref(-1, 0), api.ErrArg},
		{ref(6, 1), api.ErrArg},
		{ref(math.MaxInt, 1), api.ErrArg},
	} {
		m := made(t, small())
		swaps(t, m, 0, ref(1, 1), x.next)
		faulty(t, "the head", chainFails(t, m, 0), "arena", x.next.Slot, x.want)
		for slot := 2; slot <= 4; slot++ {
			allocates(t, m, put("a", x.next), ref(slot, 1))
			swaps(t, m, 0, x.next, ref(slot, 1))
			faulty(t, "a Next", chainFails(t, m, 0), "arena", x.next.Slot, x.want)
			swaps(t, m, 0, ref(slot, 1), x.next)
		}
	}
}

func TestChainWithAFreedRecord(t *testing.T) {
	for slot := 1; slot <= 4; slot++ {
		m := made(t, small())
		stack(t, m, "a", "b", "c")
		does(t, m.Free(ref(slot, 1)))
		faulty(t, "one is freed", chainFails(t, m, 0), "arena", slot, api.ErrStale)
		for older := 1; older < slot; older++ {
			does(t, m.Free(ref(older, 1)))
			faulty(t, "older ones are freed, too", chainFails(t, m, 0), "arena", slot, api.ErrStale)
		}
		for older := 1; older <= slot; older++ {
			allocates(t, m, base(), ref(older, 2))
			faulty(t, "the slot is used again", chainFails(t, m, 0), "arena", slot, api.ErrStale)
		}
	}
}

func TestChainOfAsManyRecordsAsSlots(t *testing.T) {
	m := made(t, least())
	refs := stack(t, m, "a", "b", "c")
	chains(t, m, 0, refs...)
	if len(refs) != 4 {
		t.Errorf("%v are not all slots", refs)
	}
	m = made(t, greatest())
	for slot := 2; slot <= api.MaxSlots; slot++ {
		allocates(t, m, put("a", ref(slot-1, 1)), ref(slot, 1))
	}
	swaps(t, m, 0, ref(1, 1), ref(api.MaxSlots, 1))
	records, refs, err := m.Chain(0)
	if len(records) != api.MaxSlots || len(refs) != api.MaxSlots || err != nil {
		t.Errorf("Chain is %d, %d, %v", len(records), len(refs), err)
	}
}

// onto is a memory with a chain of records of page 0 whose last Next is the given one.
func onto(t *testing.T, l api.Limits, records int, next api.Ref) *mem.Memory {
	t.Helper()
	m := made(t, l)
	does(t, m.Free(ref(1, 1)))
	head := next
	for range records {
		x, err := m.Alloc(put("a", head))
		if err != nil {
			t.Fatal(err)
		}
		head = x
	}
	swaps(t, m, 0, ref(1, 1), head)
	return m
}

func TestChainWithANextBehindAsManyRecordsAsSlots(t *testing.T) {
	for _, l := range []api.Limits{least(), small(), greatest()} {
		// What cannot be loaded is not loaded any more, but one record before it is.
		for _, next := range []api.Ref{ref(1, 1), ref(0, 1), ref(0, -1), ref(l.Slots+1, 1), ref(2, 9)} {
			bare(t, "all slots", chainFails(t, onto(t, l, l.Slots, next), 0), api.ErrChain)
			want := api.ErrArg
			if next.Slot == 1 || next.Slot == 2 {
				want = api.ErrStale
			}
			faulty(t, "all slots but one", chainFails(t, onto(t, l, l.Slots-1, next), 0), "arena", next.Slot, want)
		}
		if _, refs, err := onto(t, l, l.Slots, api.Ref{}).Chain(0); len(refs) != l.Slots || err != nil {
			t.Errorf("a chain that ends is %v, %v", refs, err)
		}
	}
}

func TestChainWithoutEnd(t *testing.T) {
	for _, l := range []api.Limits{least(), small(), greatest()} {
		for records := 1; records <= 4; records++ {
			for back := 1; back <= records; back++ {
				gen := 1
				if back == 1 {
					gen = 2 // the slot of the base that was freed
				}
				m := onto(t, l, records, ref(back, gen))
				bare(t, "a circle", chainFails(t, m, 0), api.ErrChain)
			}
		}
	}
}

func TestChainChangesNothing(t *testing.T) {
	m := made(t, small())
	refs := stack(t, m, "a", "b")
	m.Take()
	n := m.Count()
	for range 3 {
		chains(t, m, 0, refs...)
		chains(t, m, 1)
		chainFails(t, m, 2)
		holds(t, m, []api.Ref{ref(1, 1), ref(2, 1), ref(3, 1)}, []int{0, 1})
	}
	counts(t, m, n)
}

// P9.2, Copy.

// used is a memory that differs from a new one in all its parts.
func used(t *testing.T) *mem.Memory {
	t.Helper()
	m := made(t, small())
	stack(t, m, "a", "b")
	m.Take()
	m.Take()
	does(t, m.Give(1))
	m.Bump()
	m.Bump()
	does(t, m.Enter(1, 2))
	return m
}

// asUsed asks that a memory is as used makes it.
func asUsed(t *testing.T, m *mem.Memory) {
	t.Helper()
	counts(t, m, 11)
	if l := m.Limits(); l != small() {
		t.Fatalf("Limits is %+v", l)
	}
	holds(t, m, []api.Ref{ref(1, 1), ref(2, 1), ref(3, 1)}, []int{0, 2})
	chains(t, m, 0, ref(3, 1), ref(2, 1), ref(1, 1))
	c := m.Copy() // so that the accesses are not counted
	if n := c.Now(); n != 3 {
		t.Fatalf("Now is %d", n)
	}
	for thread, want := range []int{0, 2, 0} {
		if at, in, err := c.At(thread); at != want || in != (want != 0) || err != nil {
			t.Fatalf("At(%d) is %d, %v, %v", thread, at, in, err)
		}
	}
}

func TestCopyHasTheSame(t *testing.T) {
	m := used(t)
	asUsed(t, m)
	c := m.Copy()
	asUsed(t, c)
	asUsed(t, c.Copy())
	// What comes next is the same as well.
	for _, x := range accesses(ref(2, 1), ref(1, 1), 0, 1, 1) {
		if a, b := x.whole(m), x.whole(c); !reflect.DeepEqual(a, b) {
			t.Errorf("%s is %+v, but %+v in the copy", x.name, a, b)
		}
	}
}

func TestCopyAndOriginalAreIndependent(t *testing.T) {
	var changes []access
	changes = append(changes, accesses(ref(3, 1), ref(2, 1), 0, 1, 1)...)
	changes = append(changes, accesses(ref(1, 1), ref(2, 1), 2, 0, 3)...)
	for _, turned := range []bool{false, true} {
		a := used(t)
		b := a.Copy()
		if turned {
			a, b = b, a
		}
		for _, x := range changes {
			x.whole(a)
			asUsed(t, b)
		}
		if n := a.Count(); n != 11+len(changes) {
			t.Errorf("turned %v: Count is %d", turned, n)
		}
	}
}

// P9.2, a nil Memory; and one that is not from New.

func TestNilMemory(t *testing.T) {
	var m *mem.Memory
	for range 2 {
		for _, n := range numbers() {
			for _, x := range accesses(ref(n, 1), ref(1, n), n, n, n) {
				got := x.whole(m)
				if x.name == "Now" {
					does(t, got.err)
				} else {
					bare(t, x.name, got.err, api.ErrArg)
				}
				got.err = nil
				if !reflect.DeepEqual(got, answer{}) {
					t.Errorf("%s is %+v", x.name, got)
				}
			}
			bare(t, "Chain", chainFails(t, m, n), api.ErrArg)
		}
		counts(t, m, 0)
		holds(t, m, nil, nil)
		if l := m.Limits(); l != (api.Limits{}) {
			t.Errorf("Limits is %+v", l)
		}
		if c := m.Copy(); c != nil {
			t.Errorf("Copy is %v", c)
		}
	}
}

func TestZeroMemoryDoesNotPanic(t *testing.T) {
	m := new(mem.Memory)
	for range 2 {
		for _, n := range numbers() {
			for _, x := range accesses(ref(n, 1), ref(1, n), n, n, n) {
				x.whole(m)
			}
			m.Chain(n)
		}
		m.Limits()
		m.Count()
		m.Live()
		m.Pages()
		m = m.Copy()
	}
}

// What is handed in stays as it was, and what is handed out is new memory.

// whole is a list with what is in its spare capacity, in new memory.
func whole[T any](l []T) []T { return slices.Clone(l[:cap(l)]) }

// wholeRecord is a record with what is in the spare capacity of its lists.
func wholeRecord(r api.Record) api.Record {
	r.Rows, r.Entries = whole(r.Rows), whole(r.Entries)
	return r
}

// fill puts an element all over a list, and its spare capacity.
func fill[T any](l []T, x T) {
	l = l[:cap(l)]
	for i := range l {
		l[i] = x
	}
}

// overwrite puts other elements into a record's lists, and into their spare capacity.
func overwrite(r api.Record) {
	fill(r.Rows, api.Row{Key: "over", Value: "written"})
	fill(r.Entries, api.Entry{Key: "over", Page: 77})
}

func TestRecordsShareNoMemory(t *testing.T) {
	m := made(t, small())
	r := full()
	allocates(t, m, r, ref(2, 1))
	swaps(t, m, 0, ref(1, 1), ref(2, 1))
	if !same(wholeRecord(r), wholeRecord(full())) {
		t.Errorf("Alloc changed its argument to %+v", wholeRecord(r))
	}
	c := m.Copy()
	keep := func(what string) {
		t.Helper()
		for _, m := range []*mem.Memory{m, c} {
			if got, err := m.Load(ref(2, 1)); !same(got, full()) || err != nil {
				t.Errorf("after a change of %s, the record is %+v, %v", what, got, err)
			}
			if l, _, err := m.Chain(0); len(l) != 2 || !same(l[0], full()) || err != nil {
				t.Errorf("after a change of %s, the chain is %+v, %v", what, l, err)
			}
		}
	}
	overwrite(r)
	keep("the argument")
	for _, m := range []*mem.Memory{m, c} {
		one, _ := m.Load(ref(2, 1))
		two, _ := m.Load(ref(2, 1))
		chain, _, _ := m.Chain(0)
		other, _, _ := m.Chain(0)
		was := wholeRecord(two)
		overwrite(one)
		keep("what was loaded")
		overwrite(chain[0])
		fill(chain, api.Record{Kind: 77})
		keep("a chain")
		if !same(wholeRecord(two), was) {
			t.Error("two results share memory")
		}
		if !same(other[0], full()) || !same(other[1], base()) {
			t.Error("two chains share memory")
		}
	}
}

func TestRecordsOfAChainShareNoMemory(t *testing.T) {
	m := made(t, small())
	r := full()
	allocates(t, m, r, ref(2, 1))
	r.Next = ref(2, 1)
	allocates(t, m, r, ref(3, 1))
	swaps(t, m, 0, ref(1, 1), ref(3, 1))
	l, _, err := m.Chain(0)
	if err != nil || len(l) != 3 {
		t.Fatalf("Chain is %+v, %v", l, err)
	}
	was := wholeRecord(l[1])
	overwrite(l[0])
	if !same(wholeRecord(l[1]), was) || !same(l[1], full()) {
		t.Error("two records of a chain share memory")
	}
}

func TestListsShareNoMemory(t *testing.T) {
	m := used(t)
	live, pages := m.Live(), m.Pages()
	_, refs, _ := m.Chain(0)
	liveWas, pagesWas, refsWas := whole(live), whole(pages), whole(refs)
	fill(m.Live(), ref(77, 77))
	fill(m.Pages(), 77)
	_, others, _ := m.Chain(0)
	fill(others, ref(77, 77))
	asUsed(t, m)
	if !slices.Equal(whole(live), liveWas) || !slices.Equal(whole(pages), pagesWas) || !slices.Equal(whole(refs), refsWas) {
		t.Error("two results share memory")
	}
	m.Free(ref(3, 1))
	m.Give(2)
	m.Swap(0, ref(3, 1), ref(1, 1))
	if !slices.Equal(whole(live), liveWas) || !slices.Equal(whole(pages), pagesWas) || !slices.Equal(whole(refs), refsWas) {
		t.Error("a result changed with the memory")
	}
}

// The faults around errors of a memory are found by package fault.

func TestFaultsOfErrors(t *testing.T) {
	m := made(t, small())
	err := m.Free(ref(2, 7))
	if fault.Code(err) != api.ErrStale || err.Error() != "arena: stale" || !slices.Equal(fault.Trail(err), []string{"arena"}) {
		t.Errorf("Free: %v", err)
	}
	place, slot, ok := fault.Place(m.Give(3))
	if place != "table" || slot != 3 || !ok {
		t.Errorf("Give: %q, %d, %v", place, slot, ok)
	}
	place, slot, ok = fault.Place(m.Leave(2))
	if place != "clock" || slot != 2 || !ok {
		t.Errorf("Leave: %q, %d, %v", place, slot, ok)
	}
}
