package page_test

import (
	"errors"
	"math"
	"reflect"
	"slices"
	"strconv"
	"strings"
	"testing"

	"rowlock/api"
	"rowlock/fault"
	"rowlock/inner"
	"rowlock/leaf"
	"rowlock/mem"
	"rowlock/page"
)

// code is the code of an error, or 0.
func code(err error) api.Code {
	var c api.Code
	errors.As(err, &c)
	return c
}

func ref(slot, gen int) api.Ref { return api.Ref{Slot: slot, Gen: gen} }

// list is rows of keys, each with its place in the text as its value.
func list(keys string) []api.Row {
	var l []api.Row
	for i, k := range strings.Fields(keys) {
		l = append(l, api.Row{Key: k, Value: string(rune('0' + i))})
	}
	return l
}

// entries is an entry of low with page 1, and entries of keys with the pages from 2 on.
func entries(low, keys string) []api.Entry {
	l := []api.Entry{{Key: low, Page: 1}}
	for i, k := range strings.Fields(keys) {
		l = append(l, api.Entry{Key: k, Page: i + 2})
	}
	return l
}

// leafBase is a LeafBase from low up to high.
func leafBase(low, high string, right int, keys string) api.Record {
	return api.Record{Kind: api.LeafBase, Low: low, High: high, Right: right, Rows: list(keys)}
}

// leafOpen is a LeafBase from low on.
func leafOpen(low, keys string) api.Record {
	return api.Record{Kind: api.LeafBase, Low: low, Unbounded: true, Rows: list(keys)}
}

// innerBase is an InnerBase from low up to high.
func innerBase(low, high string, right int, keys string) api.Record {
	return api.Record{Kind: api.InnerBase, Low: low, High: high, Right: right, Entries: entries(low, keys)}
}

// innerOpen is an InnerBase from low on.
func innerOpen(low, keys string) api.Record {
	return api.Record{Kind: api.InnerBase, Low: low, Unbounded: true, Entries: entries(low, keys)}
}

func put(key string) api.Record {
	return api.Record{Kind: api.LeafPut, Key: key, Value: "x"}
}

func entryPut(key string, page int) api.Record {
	return api.Record{Kind: api.InnerPut, Key: key, Page: page}
}

func hold(key string, page, left int) api.Record {
	return api.Record{Kind: api.InnerHold, Hold: api.Hold{Page: page, Left: left, Key: key}}
}

// kind is a record of a kind with a key, and a page where there is one.
func kind(k int, key string, page int) api.Record {
	return api.Record{Kind: k, Key: key, Page: page}
}

// merge is a LeafMerge from key up to high.
func merge(key, high string, right int, keys string) api.Record {
	return api.Record{Kind: api.LeafMerge, Key: key, High: high, Right: right, Rows: list(keys)}
}

// chain is records in the order in which they came as a chain, the newest first.
func chain(records ...api.Record) []api.Record {
	l := slices.Clone(records)
	slices.Reverse(l)
	return l
}

// bare is a list, or nil if it has no elements.
func bare[T any](l []T) []T {
	if len(l) == 0 {
		return nil
	}
	return l
}

// plain is a page without lists that are empty and not nil, as these are equivalent.
func plain(p page.Page) page.Page {
	p.Chain = slices.Clone(p.Chain)
	for i, r := range p.Chain {
		p.Chain[i].Rows, p.Chain[i].Entries = bare(r.Rows), bare(r.Entries)
	}
	p.Chain, p.Refs = bare(p.Chain), bare(p.Refs)
	p.Rows.Rows, p.Inner.Entries = bare(p.Rows.Rows), bare(p.Inner.Entries)
	return p
}

// same tells whether two pages are equal.
func same(a, b page.Page) bool { return reflect.DeepEqual(plain(a), plain(b)) }

// of is the page of a chain that is valid.
func of(t *testing.T, n int, head api.Ref, l []api.Record, refs []api.Ref) page.Page {
	t.Helper()
	p, err := page.Of(n, head, l, refs)
	if err != nil {
		t.Fatalf("Of %+v: %v", l, err)
	}
	return p
}

// fails asks that there is an error with a code, and with it the zero page.
func fails(t *testing.T, name string, p page.Page, err error, want api.Code) {
	t.Helper()
	if !same(p, page.Page{}) || code(err) != want || !errors.Is(err, want) {
		t.Errorf("%s: %+v, %v, not %v", name, p, err, want)
	}
}

// is asks that a page is another one.
func is(t *testing.T, name string, p page.Page, err error, want page.Page) {
	t.Helper()
	if err != nil || !same(p, want) {
		t.Fatalf("%s: %+v, %v, not %+v", name, p, err, want)
	}
}

// P10.1, Of.

func TestOfALeaf(t *testing.T) {
	for _, c := range []struct {
		name string
		l    []api.Record
		want leaf.View
	}{
		{"that of a new memory", chain(leafOpen("", "")), leaf.View{Unbounded: true}},
		{"a base", chain(leafBase("b", "m", 3, "b c")), leaf.View{Low: "b", High: "m", Right: 3, Rows: list("b c")}},
		{"a put", chain(leafOpen("", ""), put("a")), leaf.View{Unbounded: true, Rows: []api.Row{{Key: "a", Value: "x"}}}},
		{"a del", chain(leafOpen("", "a b"), kind(api.LeafDel, "b", 0)), leaf.View{Unbounded: true, Rows: list("a")}},
		{"a split", chain(leafOpen("", "a b"), kind(api.LeafSplit, "b", 8)), leaf.View{High: "b", Right: 8, Rows: list("a")}},
		{"a merge", chain(leafBase("a", "c", 3, ""), merge("c", "m", 7, "c d")), leaf.View{Low: "a", High: "m", Right: 7, Rows: list("c d")}},
		{"a remove", chain(leafBase("a", "c", 3, "a"), kind(api.LeafRemove, "", 0)), leaf.View{Low: "a", High: "c", Right: 3, Rows: list("a"), Gone: true}},
		{"a put and a remove", chain(leafOpen("", ""), put("a"), kind(api.LeafRemove, "", 0)), leaf.View{Unbounded: true, Rows: []api.Row{{Key: "a", Value: "x"}}, Gone: true}},
	} {
		refs := []api.Ref{ref(7, 1), ref(8, 2)}
		p, err := page.Of(5, ref(7, 1), c.l, refs)
		is(t, c.name, p, err, page.Page{N: 5, Head: ref(7, 1), Chain: c.l, Refs: refs, Leaf: true, Rows: c.want})
		if p.Size() != len(c.want.Rows) {
			t.Errorf("%s: Size is %d", c.name, p.Size())
		}
		bounds(t, c.name, p, c.want.Low, c.want.High, c.want.Unbounded, c.want.Right)
	}
}

func TestOfAnInnerPage(t *testing.T) {
	for _, c := range []struct {
		name string
		l    []api.Record
		want inner.View
	}{
		{"a base", chain(innerBase("b", "m", 3, "c d")), inner.View{Low: "b", High: "m", Right: 3, Entries: entries("b", "c d")}},
		{"an unbounded base", chain(innerOpen("", "c")), inner.View{Unbounded: true, Entries: entries("", "c")}},
		{"one entry", chain(innerOpen("b", "")), inner.View{Low: "b", Unbounded: true, Entries: entries("b", "")}},
		{"a put", chain(innerOpen("", "b"), entryPut("d", 3)), inner.View{Unbounded: true, Entries: entries("", "b d")}},
		{"a split", chain(innerOpen("", "b d"), kind(api.InnerSplit, "d", 8)), inner.View{High: "d", Right: 8, Entries: entries("", "b")}},
		{"a hold", chain(innerOpen("", "b"), hold("b", 2, 1)), inner.View{Unbounded: true, Entries: entries("", "b"), Held: true, Hold: api.Hold{Page: 2, Left: 1, Key: "b"}}},
		{"a drop", chain(innerOpen("", "b"), hold("b", 2, 1), kind(api.InnerDrop, "", 0)), inner.View{Unbounded: true, Entries: entries("", "")}},
	} {
		refs := []api.Ref{ref(7, 1), ref(8, 2)}
		p, err := page.Of(5, ref(7, 1), c.l, refs)
		is(t, c.name, p, err, page.Page{N: 5, Head: ref(7, 1), Chain: c.l, Refs: refs, Inner: c.want})
		if p.Size() != len(c.want.Entries) {
			t.Errorf("%s: Size is %d", c.name, p.Size())
		}
		bounds(t, c.name, p, c.want.Low, c.want.High, c.want.Unbounded, c.want.Right)
	}
}

func TestOfAChainThatIsNotValid(t *testing.T) {
	for _, c := range []struct {
		name string
		l    []api.Record
		want api.Code
	}{
		{"nil", nil, api.ErrChain},
		{"no records", []api.Record{}, api.ErrChain},
		{"no records, but room", make([]api.Record, 0, 4), api.ErrChain},
		{"no kind", chain(api.Record{}), api.ErrKind},
		{"a kind that there is not", chain(kind(12, "", 0)), api.ErrKind},
		{"a great kind", chain(kind(math.MaxInt, "", 0)), api.ErrKind},
		{"a negative kind", chain(kind(math.MinInt, "", 0)), api.ErrKind},

		{"a leaf's change by itself", chain(put("a")), api.ErrKind}, // an inner page has none of its kind
		{"a leaf's changes without a base", chain(put("a"), put("b")), api.ErrKind},
		{"a leaf's change below a leaf's base", chain(put("a"), leafOpen("", "")), api.ErrKind},
		{"a leaf's base without what is below", chain(kind(0, "", 0), leafOpen("", "")), api.ErrKind},
		{"a leaf's change on an inner page", chain(innerOpen("", "b"), put("a")), api.ErrKind},
		{"a leaf's base on an inner page", chain(innerOpen("", "b"), leafOpen("", "")), api.ErrKind},

		{"an inner page's change by itself", chain(entryPut("a", 1)), api.ErrChain},
		{"an inner page's changes without a base", chain(entryPut("a", 1), entryPut("b", 1)), api.ErrChain},
		{"an inner page's change below its base", chain(entryPut("a", 1), innerOpen("", "")), api.ErrChain},
		{"an inner page's change on a leaf", chain(leafOpen("", "a"), entryPut("b", 1)), api.ErrKind},
		{"an inner page's base on a leaf", chain(leafOpen("", "a"), innerOpen("", "b")), api.ErrKind},

		{"two bases of a leaf", chain(leafOpen("", "a"), leafOpen("", "a")), api.ErrChain},
		{"two bases of an inner page", chain(innerOpen("", "b"), innerOpen("", "b")), api.ErrChain},
		{"rows that fall", chain(leafOpen("", "b a")), api.ErrChain},
		{"entries that fall", chain(innerOpen("", "c b")), api.ErrChain},
		{"no entries", chain(kind(api.InnerBase, "", 0)), api.ErrChain},
		{"a put out of the span of a leaf", chain(leafBase("", "b", 3, "a"), put("b")), api.ErrChain},
		{"a put out of the span of an inner page", chain(innerBase("", "b", 3, ""), entryPut("b", 2)), api.ErrChain},
		{"a put above a remove", chain(leafOpen("", ""), kind(api.LeafRemove, "", 0), put("a")), api.ErrChain},
		{"a put above a hold", chain(innerOpen("", "b"), hold("b", 2, 1), entryPut("c", 3)), api.ErrChain},
	} {
		p, err := page.Of(5, ref(7, 1), c.l, []api.Ref{ref(7, 1)})
		fails(t, c.name, p, err, c.want)
	}
}

// changes are records for short chains: bases and changes, of leaves, of inner pages, and of none.
func changes() []api.Record {
	return []api.Record{
		leafOpen("", "a c"), leafBase("a", "d", 3, "a c"), leafOpen("", "c a"),
		put("b"), kind(api.LeafDel, "a", 0), kind(api.LeafSplit, "c", 7), kind(api.LeafRemove, "", 0), merge("c", "e", 4, "d"),
		innerOpen("", "c"), innerBase("a", "d", 3, "b"), innerOpen("", "c b"),
		entryPut("b", 5), kind(api.InnerSplit, "c", 7), hold("c", 2, 1), kind(api.InnerDrop, "", 0),
		{}, kind(12, "a", 1),
	}
}

// everyChain calls for all chains of at most n records.
func everyChain(n int, call func(l []api.Record)) {
	var extend func(l []api.Record)
	extend = func(l []api.Record) {
		call(l)
		if len(l) == n {
			return
		}
		for _, r := range changes() {
			extend(append(slices.Clip(l), r))
		}
	}
	extend(nil)
}

func TestOfEveryShortChain(t *testing.T) {
	leaves, inners := 0, 0
	everyChain(3, func(l []api.Record) {
		want := page.Page{N: 9, Head: ref(2, 3), Chain: l, Refs: []api.Ref{ref(4, 5)}}
		var err error
		if len(l) > 0 && l[len(l)-1].Kind == api.LeafBase {
			want.Leaf = true
			want.Rows, err = leaf.Fold(l)
		} else {
			want.Inner, err = inner.Fold(l)
		}
		p, got := page.Of(9, ref(2, 3), l, []api.Ref{ref(4, 5)})
		switch {
		case err != nil:
			fails(t, "a chain that is not valid", p, got, code(err))
			return
		case want.Leaf:
			leaves++
			size(t, p, len(want.Rows.Rows))
			bounds(t, "a leaf", p, want.Rows.Low, want.Rows.High, want.Rows.Unbounded, want.Rows.Right)
		default:
			inners++
			size(t, p, len(want.Inner.Entries))
			bounds(t, "an inner page", p, want.Inner.Low, want.Inner.High, want.Inner.Unbounded, want.Inner.Right)
		}
		is(t, "a chain that is valid", p, got, want)
	})
	if leaves == 0 || inners == 0 {
		t.Errorf("%d leaves and %d inner pages", leaves, inners)
	}
}

func TestOfKeepsWhatItDoesNotAsk(t *testing.T) {
	for _, l := range [][]api.Record{chain(leafOpen("", "a")), chain(innerOpen("", "b"), entryPut("c", 3))} {
		want := of(t, 0, api.Ref{}, l, nil)
		for _, n := range []int{0, 1, 255, 256, -1, math.MinInt, math.MaxInt} {
			for _, head := range []api.Ref{{}, ref(1, 1), ref(n, -n)} {
				for _, refs := range [][]api.Ref{nil, {}, {ref(1, 1)}, {{}, ref(n, n), ref(3, 3)}} {
					want.N, want.Head, want.Refs = n, head, refs
					p, err := page.Of(n, head, l, refs)
					is(t, "any numbers", p, err, want)
				}
			}
		}
	}
}

func TestOfKeepsRecordsWhole(t *testing.T) {
	r := api.Record{
		Kind: api.LeafBase, Low: "a", High: "m", Right: 9,
		Rows: list("a b"), Entries: entries("", "e"),
		Key: "k", Value: "v", Page: -2, Hold: api.Hold{Page: 3, Left: 4, Key: "h"}, Next: ref(5, 6),
	}
	p := of(t, 1, ref(1, 1), chain(r), nil)
	if len(p.Chain) != 1 || !reflect.DeepEqual(p.Chain[0], r) {
		t.Errorf("the chain is %+v", p.Chain)
	}
	r.Kind, r.Entries, r.Rows = api.InnerBase, entries("a", "e"), list("b a")
	p = of(t, 1, ref(1, 1), chain(r), nil)
	if len(p.Chain) != 1 || !reflect.DeepEqual(p.Chain[0], r) {
		t.Errorf("the chain is %+v", p.Chain)
	}
}

// P10.1, Has, Bounds and Size.

// bounds asks for what Bounds returns.
func bounds(t *testing.T, name string, p page.Page, low, high string, unbounded bool, right int) {
	t.Helper()
	l, h, u, r := p.Bounds()
	if l != low || h != high || u != unbounded || r != right {
		t.Errorf("%s: Bounds is %q, %q, %v, %d", name, l, h, u, r)
	}
}

// size asks for what Size returns.
func size(t *testing.T, p page.Page, want int) {
	t.Helper()
	if n := p.Size(); n != want {
		t.Errorf("Size of %+v is %d", p, n)
	}
}

// has asks that a page has keys, and does not have others.
func has(t *testing.T, name string, p page.Page, keys, others []string) {
	t.Helper()
	for _, k := range keys {
		if !p.Has(k) {
			t.Errorf("%s: Has of %q is false", name, k)
		}
	}
	for _, k := range others {
		if p.Has(k) {
			t.Errorf("%s: Has of %q is true", name, k)
		}
	}
}

// spans are pages of each of two kinds with a span.
func spans(t *testing.T, low, high string, unbounded bool) []page.Page {
	t.Helper()
	leafy := api.Record{Kind: api.LeafBase, Low: low, High: high, Unbounded: unbounded}
	other := leafy
	other.Kind, other.Entries = api.InnerBase, []api.Entry{{Key: low, Page: 1}}
	return []page.Page{of(t, 1, ref(1, 1), chain(leafy), nil), of(t, 1, ref(1, 1), chain(other), nil)}
}

func TestHas(t *testing.T) {
	long := strings.Repeat("b", 100)
	for _, c := range []struct {
		low, high    string
		unbounded    bool
		keys, others []string
	}{
		{"", "", true, []string{"", "\x00", "a", "zz", "\xff\xff", long}, nil},
		{"b", "", true, []string{"b", "b\x00", "c", "\xff", long}, []string{"", "a", "a\xff", "B"}},
		{"", "b", false, []string{"", "\x00", "a", "a\xff", "B"}, []string{"b", "b\x00", "c", "\xff", long}},
		{"b", "d", false, []string{"b", "b\x00", "bz", "c", "c\xff", long}, []string{"", "a", "a\xff", "d", "d\x00", "e", "\xff"}},
		{"b", "b\x00", false, []string{"b"}, []string{"", "a", "b\x00", "bb", "c"}},
		{"B", "a", false, []string{"B", "Z", "_"}, []string{"A", "a", "b"}},
		{"\x7f", "\x81", false, []string{"\x7f", "\x80", "\x80\xff"}, []string{"z", "\x81", "\xc2\x80", "\xff"}},
	} {
		name := strconv.Quote(c.low) + " to " + strconv.Quote(c.high)
		for _, p := range spans(t, c.low, c.high, c.unbounded) {
			has(t, name, p, c.keys, c.others)
			bounds(t, name, p, c.low, c.high, c.unbounded, 0)
		}
	}
}

func TestHasOfAnEmptySpan(t *testing.T) {
	for _, r := range []api.Record{leafBase("", "", 0, ""), leafBase("b", "b", 0, ""), leafBase("c", "a", 0, "")} {
		has(t, "an empty span", of(t, 1, ref(1, 1), chain(r), nil), nil, []string{"", "a", "b", "c", "d"})
	}
}

func TestTheViewCountsNotTheBase(t *testing.T) {
	p := of(t, 1, ref(1, 1), chain(leafOpen("b", "b c d"), kind(api.LeafSplit, "d", 8)), nil)
	has(t, "a leaf that was split", p, []string{"b", "c"}, []string{"a", "d", "e"})
	bounds(t, "a leaf that was split", p, "b", "d", false, 8)
	size(t, p, 2)
	p = of(t, 1, ref(1, 1), chain(leafBase("b", "d", 8, "b c"), merge("d", "f", 9, "d")), nil)
	has(t, "a leaf that was merged", p, []string{"b", "d", "e"}, []string{"a", "f"})
	bounds(t, "a leaf that was merged", p, "b", "f", false, 9)
	size(t, p, 3)
	p = of(t, 1, ref(1, 1), chain(leafBase("b", "d", 8, "b c"), kind(api.LeafRemove, "", 0)), nil)
	has(t, "a leaf that is gone", p, []string{"b", "c"}, []string{"a", "d"})
	bounds(t, "a leaf that is gone", p, "b", "d", false, 8)
	size(t, p, 2)
	p = of(t, 1, ref(1, 1), chain(innerOpen("b", "c d"), kind(api.InnerSplit, "d", 8)), nil)
	has(t, "an inner page that was split", p, []string{"b", "c"}, []string{"a", "d", "e"})
	bounds(t, "an inner page that was split", p, "b", "d", false, 8)
	size(t, p, 2)
	p = of(t, 1, ref(1, 1), chain(innerBase("b", "e", 8, "c d"), hold("c", 2, 1)), nil)
	has(t, "an inner page that is held", p, []string{"b", "c", "d"}, []string{"a", "e"})
	bounds(t, "an inner page that is held", p, "b", "e", false, 8)
	size(t, p, 3)
}

// A page that is not from Of has the view that it says it has.
func TestPagesThatAreMadeByHand(t *testing.T) {
	p := page.Page{
		Rows:  leaf.View{Low: "b", High: "d", Right: 3, Rows: list("b")},
		Inner: inner.View{Low: "m", High: "p", Right: 4, Entries: entries("m", "n")},
	}
	has(t, "an inner page", p, []string{"m", "n", "o"}, []string{"b", "c", "d", "p"})
	bounds(t, "an inner page", p, "m", "p", false, 4)
	size(t, p, 2)
	p.Leaf = true
	has(t, "a leaf", p, []string{"b", "c"}, []string{"d", "m", "n", "p"})
	bounds(t, "a leaf", p, "b", "d", false, 3)
	size(t, p, 1)
	p.Rows.Unbounded = true
	has(t, "an unbounded leaf", p, []string{"b", "c", "d", "z"}, []string{"", "a"})
	bounds(t, "an unbounded leaf", p, "b", "d", true, 3)
}

func TestZeroPage(t *testing.T) {
	for _, p := range []page.Page{{}, {Leaf: true}} {
		has(t, "a zero page", p, nil, []string{"", "\x00", "a"})
		bounds(t, "a zero page", p, "", "", false, 0)
		size(t, p, 0)
	}
}

// P10.2: a loader.

func limits() api.Limits {
	return api.Limits{Slots: 6, Pages: 4, Threads: 1, Rows: 4, Chain: 4, Count: 99}
}

// least and greatest are limits with the fewest and the most slots.
func least() api.Limits {
	return api.Limits{Slots: 4, Pages: 3, Threads: 1, Rows: 2, Chain: 2, Count: 8}
}

func greatest() api.Limits {
	return api.Limits{Slots: api.MaxSlots, Pages: api.MaxPages, Threads: 1, Rows: 2, Chain: 2, Count: 99}
}

// made is a new memory.
func made(t *testing.T, l api.Limits) *mem.Memory {
	t.Helper()
	m, err := mem.New(l)
	if err != nil {
		t.Fatal(err)
	}
	return m
}

// counts asks how many accesses there were.
func counts(t *testing.T, name string, m *mem.Memory, want int) {
	t.Helper()
	if n := m.Count(); n != want {
		t.Errorf("%s: Count is %d, not %d", name, n, want)
	}
}

// onto puts a record in front of a page, and returns its ref.
func onto(t *testing.T, m *mem.Memory, n int, r api.Record) api.Ref {
	t.Helper()
	head, err := m.Head(n)
	if err != nil {
		t.Fatal(err)
	}
	r.Next = head
	return instead(t, m, n, r)
}

// instead puts a record in place of the head of a page, with the Next that it has.
func instead(t *testing.T, m *mem.Memory, n int, r api.Record) api.Ref {
	t.Helper()
	x, err := m.Alloc(r)
	if err != nil {
		t.Fatal(err)
	}
	heads(t, m, n, x)
	return x
}

// heads makes a ref the head of a page.
func heads(t *testing.T, m *mem.Memory, n int, x api.Ref) {
	t.Helper()
	old, _ := m.Head(n)
	if ok, err := m.Swap(n, old, x); !ok || err != nil {
		t.Fatalf("Swap of %d is %v, %v", n, ok, err)
	}
}

// take is a page that is used from now on.
func take(t *testing.T, m *mem.Memory) int {
	t.Helper()
	n, err := m.Take()
	if err != nil {
		t.Fatal(err)
	}
	return n
}

// give makes a page free.
func give(t *testing.T, m *mem.Memory, n int) {
	t.Helper()
	if err := m.Give(n); err != nil {
		t.Fatal(err)
	}
}

// free makes the slots of refs free.
func free(t *testing.T, m *mem.Memory, refs ...api.Ref) {
	t.Helper()
	for _, x := range refs {
		if err := m.Free(x); err != nil {
			t.Fatal(err)
		}
	}
}

// busy asks that a loader has not finished.
func busy(t *testing.T, name string, l *page.Loader) {
	t.Helper()
	if l.Over() {
		t.Fatalf("%s: Over is true", name)
	}
	p, err := l.Page()
	fails(t, name, p, err, api.ErrBusy)
}

// steps asks that a loader finishes with its last one of some steps, each of which is one access, and makes no more of them then.
func steps(t *testing.T, name string, l *page.Loader, m *mem.Memory, want int) {
	t.Helper()
	n := m.Count()
	for i := 1; i <= want; i++ {
		busy(t, name, l)
		if over := l.Step(m); over != (i == want) {
			t.Fatalf("%s: step %d is %v", name, i, over)
		}
		counts(t, name, m, n+i)
	}
	for range 3 {
		if !l.Over() || !l.Step(m) {
			t.Fatalf("%s: it goes on", name)
		}
	}
	counts(t, name, m, n+want)
}

// loads asks that the loader of a page takes some steps, and returns what it loaded.
func loads(t *testing.T, name string, m *mem.Memory, n, want int) page.Page {
	t.Helper()
	l := page.Begin(n)
	steps(t, name, l, m, want)
	p, err := l.Page()
	if err != nil {
		t.Fatalf("%s: %v", name, err)
	}
	return p
}

// loadFails asks that the loader of a page takes some steps, and returns its error.
func loadFails(t *testing.T, name string, m *mem.Memory, n, last int, want api.Code) error {
	t.Helper()
	l := page.Begin(n)
	steps(t, name, l, m, last)
	p, err := l.Page()
	fails(t, name, p, err, want)
	return err
}

// moment is a page as it is now, without an access.
func moment(t *testing.T, m *mem.Memory, n int) page.Page {
	t.Helper()
	records, refs, err := m.Chain(n)
	if err != nil {
		t.Fatal(err)
	}
	return of(t, n, refs[0], records, refs)
}

func TestExample1(t *testing.T) {
	m := made(t, limits())
	l := page.Begin(0)
	if l.Step(m) || !l.Step(m) {
		t.Error("it takes other than two steps")
	}
	counts(t, "a new memory", m, 2)
	p, err := l.Page()
	is(t, "a new memory", p, err, page.Page{
		Head: ref(1, 1), Chain: chain(leafOpen("", "")), Refs: []api.Ref{ref(1, 1)}, Leaf: true, Rows: leaf.View{Unbounded: true},
	})
}

func TestLoaderTakesOneStepForEachRecord(t *testing.T) {
	m := made(t, limits())
	for i, key := range []string{"e", "b", "d", "a", "c"} {
		p := loads(t, "a leaf", m, 0, 2+i)
		is(t, "a leaf", p, nil, moment(t, m, 0))
		size(t, p, i)
		onto(t, m, 0, put(key))
	}
	p := loads(t, "a leaf", m, 0, 7)
	is(t, "a leaf", p, nil, moment(t, m, 0))
	if !slices.Equal(p.Refs, []api.Ref{ref(6, 1), ref(5, 1), ref(4, 1), ref(3, 1), ref(2, 1), ref(1, 1)}) || p.Head != ref(6, 1) {
		t.Errorf("the refs are %v, and the head is %v", p.Refs, p.Head)
	}
	for i, key := range []string{"c", "a", "d", "b", "e"} {
		if p.Chain[i].Key != key || p.Chain[i].Next != p.Refs[i+1] {
			t.Errorf("record %d is %+v", i, p.Chain[i])
		}
	}
}

func TestLoaderOfOtherPages(t *testing.T) {
	m := made(t, limits())
	n, other := take(t, m), take(t, m)
	instead(t, m, n, innerBase("b", "m", 3, "c d"))
	onto(t, m, n, entryPut("e", 9))
	instead(t, m, other, leafBase("x", "z", 5, "x y"))
	is(t, "an inner page", loads(t, "an inner page", m, n, 3), nil, page.Page{
		N: 1, Head: ref(3, 1), Refs: []api.Ref{ref(3, 1), ref(2, 1)},
		Chain: []api.Record{{Kind: api.InnerPut, Key: "e", Page: 9, Next: ref(2, 1)}, innerBase("b", "m", 3, "c d")},
		Inner: inner.View{Low: "b", High: "m", Right: 3, Entries: append(entries("b", "c d"), api.Entry{Key: "e", Page: 9})},
	})
	is(t, "a leaf", loads(t, "a leaf", m, other, 2), nil, page.Page{
		N: 2, Head: ref(4, 1), Refs: []api.Ref{ref(4, 1)}, Chain: chain(leafBase("x", "z", 5, "x y")),
		Leaf: true, Rows: leaf.View{Low: "x", High: "z", Right: 5, Rows: list("x y")},
	})
	is(t, "page 0", loads(t, "page 0", m, 0, 2), nil, moment(t, m, 0))
}

func TestLoaderOfNoPage(t *testing.T) {
	m := made(t, limits())
	take(t, m)
	give(t, m, 1)
	for _, n := range []int{1, 2, 3, 4, 5, 255, 256, 1000, -1, -2, math.MinInt, math.MaxInt} {
		want := api.ErrNone
		if n < 0 || n > 3 {
			want = api.ErrArg
		}
		err := loadFails(t, "no page", m, n, 1, want)
		_, head := m.Head(n)
		if !reflect.DeepEqual(err, head) {
			t.Errorf("the error of page %d is %#v, but that of its head %#v", n, err, head)
		}
		if place, slot, ok := fault.Place(err); place != "table" || slot != n || !ok {
			t.Errorf("the error of page %d is of %q %d", n, place, slot)
		}
	}
}

func TestLoaderOfAPageWithoutHead(t *testing.T) {
	m := made(t, limits())
	if err := loadFails(t, "no head", m, take(t, m), 1, api.ErrChain); err != error(api.ErrChain) {
		t.Errorf("the error is %#v", err)
	}
}

// unloadable are refs that no record of a memory has, and the codes of loading them.
func unloadable() map[api.Ref]api.Code {
	return map[api.Ref]api.Code{
		ref(1, 0):            api.ErrStale,
		ref(1, 2):            api.ErrStale,
		ref(6, 1):            api.ErrStale,
		ref(6, math.MinInt):  api.ErrStale,
		ref(0, 1):            api.ErrArg, // no slot, and yet not the zero ref
		ref(0, -1):           api.ErrArg,
		ref(-1, 0):           api.ErrArg,
		ref(7, 1):            api.ErrArg,
		ref(math.MaxInt, 1):  api.ErrArg,
		ref(math.MinInt, -1): api.ErrArg,
	}
}

func TestLoaderOfARecordThatCannotBeLoaded(t *testing.T) {
	for x, want := range unloadable() {
		m := made(t, limits())
		heads(t, m, 0, x)
		for above := range 4 {
			err := loadFails(t, "a ref that is none", m, 0, 2+above, want)
			_, load := m.Load(x)
			if !reflect.DeepEqual(err, load) {
				t.Errorf("the error is %#v, but that of %v is %#v", err, x, load)
			}
			if place, slot, ok := fault.Place(err); place != "arena" || slot != x.Slot || !ok {
				t.Errorf("the error of %v is of %q %d", x, place, slot)
			}
			onto(t, m, 0, put("a"))
		}
	}
}

// stack is a memory with a chain of that many records on page 0, the last Next of which is the given one.
func stack(t *testing.T, l api.Limits, records int, next api.Ref) *mem.Memory {
	t.Helper()
	m := made(t, l)
	free(t, m, ref(1, 1))
	base := leafOpen("", "")
	base.Next = next
	instead(t, m, 0, base)
	for range records - 1 {
		onto(t, m, 0, put("a"))
	}
	return m
}

func TestLoaderOfAsManyRecordsAsSlots(t *testing.T) {
	for _, l := range []api.Limits{least(), limits(), greatest()} {
		for _, fewer := range []int{0, 1, 2} {
			n := l.Slots - fewer
			p := loads(t, "a chain that ends", stack(t, l, n, api.Ref{}), 0, n+1)
			if len(p.Chain) != n || len(p.Refs) != n || p.Refs[n-1] != ref(1, 2) {
				t.Errorf("%d records and %d refs of %d", len(p.Chain), len(p.Refs), n)
			}
		}
	}
}

func TestLoaderDoesNotLoadMoreRecordsThanSlots(t *testing.T) {
	for _, l := range []api.Limits{least(), limits(), greatest()} {
		// What is behind as many records as slots is not loaded, whatever it is; what is behind one fewer is.
		for _, next := range []api.Ref{ref(1, 2), ref(2, 1), ref(1, 1), ref(0, 1), ref(-1, -1), ref(l.Slots+1, 1)} {
			m := stack(t, l, l.Slots, next)
			if err := loadFails(t, "all slots", m, 0, l.Slots+1, api.ErrChain); err != error(api.ErrChain) {
				t.Errorf("the error is %#v", err)
			}
		}
		loadFails(t, "all slots but one", stack(t, l, l.Slots-1, ref(1, 1)), 0, l.Slots+1, api.ErrStale)
		loadFails(t, "all slots but one", stack(t, l, l.Slots-1, ref(0, 1)), 0, l.Slots+1, api.ErrArg)
	}
}

func TestLoaderOfACircle(t *testing.T) {
	for _, l := range []api.Limits{least(), limits(), greatest()} {
		for records := 1; records <= 4; records++ {
			for back := 1; back <= records; back++ {
				gen := 1
				if back == 1 {
					gen = 2 // the slot of the first record, which was freed
				}
				loadFails(t, "a circle", stack(t, l, records, ref(back, gen)), 0, l.Slots+1, api.ErrChain)
			}
		}
	}
}

func TestLoaderFollowsNextWhateverTheRecord(t *testing.T) {
	m := made(t, limits())
	onto(t, m, 0, leafOpen("", "a")) // a base, and yet not the last record
	loadFails(t, "two bases", m, 0, 3, api.ErrChain)
	onto(t, m, 0, innerOpen("", "b"))
	loadFails(t, "bases of two kinds", m, 0, 4, api.ErrKind)
	n := take(t, m)
	instead(t, m, n, put("a"))
	loadFails(t, "no base", m, n, 2, api.ErrKind)
	onto(t, m, n, put("b"))
	loadFails(t, "no base", m, n, 3, api.ErrKind)
}

func TestLoaderHasTheErrorOfOf(t *testing.T) {
	everyChain(2, func(l []api.Record) {
		if len(l) == 0 {
			return
		}
		m := made(t, limits())
		n := take(t, m)
		for _, r := range slices.Backward(l) {
			onto(t, m, n, r)
		}
		records, refs, err := m.Chain(n)
		if err != nil {
			t.Fatal(err)
		}
		want, err := page.Of(n, refs[0], records, refs)
		if err != nil {
			loadFails(t, "a chain that is not valid", m, n, 1+len(l), code(err))
			return
		}
		is(t, "a chain that is valid", loads(t, "a chain that is valid", m, n, 1+len(l)), nil, want)
	})
}

func TestOnlyStepIsAnAccess(t *testing.T) {
	m := made(t, limits())
	onto(t, m, 0, put("a"))
	n := m.Count()
	l := page.Begin(0)
	for i := range 3 {
		for range 3 {
			busy(t, "ahead of a step", l)
		}
		counts(t, "ahead of a step", m, n+i)
		l.Step(m)
	}
	for range 3 {
		p, err := l.Page()
		is(t, "behind the steps", p, err, moment(t, m, 0))
	}
	counts(t, "behind the steps", m, n+3)
}

// What the accesses are, in order: what a loader has not accessed yet may still change what it loads, and what it has accessed may not.

func TestTheHeadIsAccessedFirst(t *testing.T) {
	m := made(t, limits())
	l := page.Begin(0)
	onto(t, m, 0, put("a"))
	want := moment(t, m, 0)
	l.Step(m)
	onto(t, m, 0, put("b"))
	steps(t, "a change of the head", l, m, 2)
	p, err := l.Page()
	is(t, "a change of the head", p, err, want)
}

func TestAPageThatIsTakenBeforeTheFirstStep(t *testing.T) {
	m := made(t, limits())
	l, other := page.Begin(1), page.Begin(1)
	loadFails(t, "a free page", m, 1, 1, api.ErrNone)
	take(t, m)
	instead(t, m, 1, leafOpen("", "a"))
	want := moment(t, m, 1)
	l.Step(m)
	give(t, m, 1)
	steps(t, "a page that was given back", l, m, 1)
	p, err := l.Page()
	is(t, "a page that was given back", p, err, want)
	steps(t, "a free page", other, m, 1)
	p, err = other.Page()
	fails(t, "a free page", p, err, api.ErrNone)
}

func TestARecordIsAccessedByItsOwnStep(t *testing.T) {
	const records = 4
	for freed := range records {
		for before := range records + 2 {
			m := made(t, limits())
			for _, key := range []string{"a", "b", "c"} {
				onto(t, m, 0, put(key))
			}
			want := moment(t, m, 0)
			x := want.Refs[freed]
			l := page.Begin(0)
			for range before {
				l.Step(m)
			}
			free(t, m, x)
			if before >= freed+2 { // it was loaded ahead
				if before < records+1 {
					steps(t, "freed after its step", l, m, records+1-before)
				}
				p, err := l.Page()
				is(t, "freed after its step", p, err, want)
				continue
			}
			steps(t, "freed ahead of its step", l, m, freed+2-before)
			p, err := l.Page()
			fails(t, "freed ahead of its step", p, err, api.ErrStale)
			if place, slot, _ := fault.Place(err); place != "arena" || slot != x.Slot {
				t.Errorf("the error is of %q %d, not of %v", place, slot, x)
			}
		}
	}
}

func TestASlotThatIsUsedAgain(t *testing.T) {
	m := made(t, limits())
	l := page.Begin(0)
	l.Step(m)
	free(t, m, ref(1, 1))
	instead(t, m, 0, leafOpen("", "b"))
	steps(t, "a slot that is used again", l, m, 1)
	p, err := l.Page()
	fails(t, "a slot that is used again", p, err, api.ErrStale)
	if p := loads(t, "a slot that is used again", m, 0, 2); p.Head != ref(1, 2) {
		t.Errorf("the head is %v", p.Head)
	}
}

// A loader that has finished.

func TestWhatWasLoadedStays(t *testing.T) {
	m := made(t, limits())
	onto(t, m, 0, put("a"))
	want := moment(t, m, 0)
	l := page.Begin(0)
	steps(t, "a page", l, m, 3)
	onto(t, m, 0, put("b"))
	free(t, m, m.Live()...)
	give(t, m, 0)
	for _, other := range []*mem.Memory{m, made(t, limits()), nil, new(mem.Memory)} {
		n := other.Count()
		if !l.Step(other) || !l.Over() {
			t.Error("it goes on")
		}
		counts(t, "a loader that has finished", other, n)
		p, err := l.Page()
		is(t, "a loader that has finished", p, err, want)
	}
}

func TestAnErrorStays(t *testing.T) {
	for n, want := range map[int]api.Code{1: api.ErrNone, 2: api.ErrChain, 3: api.ErrStale, 9: api.ErrArg} {
		m := made(t, limits())
		for range 3 {
			take(t, m)
		}
		heads(t, m, 3, ref(4, 4))
		give(t, m, 1)
		l := page.Begin(n)
		for !l.Step(m) {
		}
		_, first := l.Page()
		take(t, m) // page 1, so that by now there are records where there were none
		for k := 1; k < 4; k++ {
			heads(t, m, k, ref(1, 1))
		}
		for range 3 {
			count := m.Count()
			if !l.Step(m) || !l.Over() {
				t.Error("it goes on")
			}
			counts(t, "an error", m, count)
			p, err := l.Page()
			fails(t, "an error", p, err, want)
			if err != first {
				t.Errorf("the error is %#v, and was %#v", err, first)
			}
		}
	}
}

// Each step may be made on a memory of its own: it is the one that the access is made to.

func TestStepsOnTwoMemories(t *testing.T) {
	a, b := made(t, limits()), made(t, limits())
	onto(t, a, 0, put("a"))
	onto(t, b, 0, put("b"))
	onto(t, b, 0, put("c"))
	na, nb := a.Count(), b.Count()
	l := page.Begin(0)
	l.Step(a) // the head is slot 2
	l.Step(b) // which is the put of b in this one
	l.Step(a)
	counts(t, "the first memory", a, na+2)
	counts(t, "the second memory", b, nb+1)
	p, err := l.Page()
	if err != nil || p.Size() != 1 || p.Rows.Rows[0].Key != "b" || p.Head != ref(2, 1) {
		t.Errorf("the page is %+v, %v", p, err)
	}
}

func TestTheSlotsAreThoseOfTheStep(t *testing.T) {
	few, many := stack(t, least(), 4, ref(2, 1)), stack(t, limits(), 4, ref(2, 1)) // both end in a circle of two records
	for n := 1; n <= 6; n++ {
		l := page.Begin(0)
		for range n {
			l.Step(many)
		}
		busy(t, "many slots", l)
		steps(t, "few slots", l, few, max(1, 5-n)) // up to four records, or just one more
		p, err := l.Page()
		fails(t, "few slots", p, err, api.ErrChain)
	}
}

func TestStepsOnANilMemory(t *testing.T) {
	for n := range 3 {
		m := made(t, limits())
		onto(t, m, 0, put("a"))
		l := page.Begin(0)
		for range n {
			l.Step(m)
		}
		busy(t, "ahead of a nil memory", l)
		if !l.Step(nil) || !l.Over() {
			t.Error("it goes on")
		}
		p, err := l.Page()
		fails(t, "a nil memory", p, err, api.ErrArg)
		if err != error(api.ErrArg) {
			t.Errorf("the error is %#v", err)
		}
	}
	l := page.Begin(0)
	if !l.Step(new(mem.Memory)) {
		t.Error("it goes on")
	}
	p, err := l.Page()
	fails(t, "a zero memory", p, err, api.ErrArg)
}

// P10.3: what is put in front while a page is loaded makes no difference.

// fronts are changes of page 0 while it is loaded, none of which frees a slot.
func fronts(t *testing.T) []func(m *mem.Memory) {
	return []func(m *mem.Memory){
		func(m *mem.Memory) { onto(t, m, 0, put("m")) },
		func(m *mem.Memory) { onto(t, m, 0, kind(api.LeafDel, "a", 0)) },
		func(m *mem.Memory) { onto(t, m, 0, kind(api.LeafSplit, "b", 1)) },
		func(m *mem.Memory) { onto(t, m, 0, kind(api.LeafRemove, "", 0)) },
		func(m *mem.Memory) { instead(t, m, 0, leafOpen("", "k l")) },
		func(m *mem.Memory) { instead(t, m, 0, innerOpen("", "k")) },
		func(m *mem.Memory) { heads(t, m, 0, api.Ref{}) },
	}
}

// interleave calls for all ways in which n changes can come between the steps of a loader: after how many steps each comes, in order.
func interleave(n, steps int, call func(after []int)) {
	var extend func(after []int, from int)
	extend = func(after []int, from int) {
		if len(after) == n {
			call(after)
			return
		}
		for i := from; i <= steps; i++ {
			extend(append(slices.Clip(after), i), i)
		}
	}
	extend(nil, 1)
}

func TestWhatIsPutInFrontMakesNoDifference(t *testing.T) {
	room := api.Limits{Slots: 20, Pages: 4, Threads: 1, Rows: 4, Chain: 4, Count: 99}
	for records := 1; records <= 3; records++ {
		start := made(t, room)
		for _, key := range []string{"a", "b", "c"}[:records-1] {
			onto(t, start, 0, put(key))
		}
		want := moment(t, start, 0)
		for _, one := range fronts(t) {
			for _, two := range fronts(t) {
				interleave(2, records, func(after []int) {
					m := start.Copy()
					l := page.Begin(0)
					for i := 1; i <= records; i++ {
						if l.Step(m) {
							t.Fatal("it ends early")
						}
						if after[0] == i {
							one(m)
						}
						if after[1] == i {
							two(m)
						}
					}
					steps(t, "changes in front", l, m, 1)
					p, err := l.Page()
					is(t, "changes in front", p, err, want)
				})
			}
		}
	}
}

// Two loaders at once, each of what the page was when it accessed the head.
func TestLoadersAreIndependent(t *testing.T) {
	const puts = 8
	for turns := range 1 << puts {
		m := made(t, api.Limits{Slots: 20, Pages: 3, Threads: 1, Rows: 20, Chain: 20, Count: 99})
		onto(t, m, 0, put("a"))
		loaders := []*page.Loader{page.Begin(0), page.Begin(0)}
		var wants [2]page.Page
		step := func(i int) bool {
			if wants[i].Refs == nil {
				wants[i] = moment(t, m, 0)
			}
			return loaders[i].Step(m)
		}
		for i := range puts {
			step(turns >> i & 1)
			onto(t, m, 0, put(string(rune('b'+i))))
		}
		for i, l := range loaders {
			for !step(i) {
			}
			p, err := l.Page()
			is(t, "two loaders", p, err, wants[i])
		}
	}
}

// A loader that was copied as a value goes on by itself.
func TestCopiesOfALoaderAreIndependent(t *testing.T) {
	start := made(t, limits())
	for _, key := range []string{"a", "b", "c", "d"} {
		onto(t, start, 0, put(key))
	}
	want := moment(t, start, 0)
	other := start.Copy() // in this one, only the head can be loaded
	free(t, other, want.Refs[1:]...)
	for n := range 6 {
		m := start.Copy()
		l := page.Begin(0)
		for range n {
			l.Step(m)
		}
		c := *l
		for !c.Step(other) {
		}
		busy(t, "the original", l)
		d := *l
		for !l.Step(m) {
		}
		p, err := l.Page()
		is(t, "the original", p, err, want)
		busy(t, "a copy", &d)
		steps(t, "a copy", &d, m, 6-n)
		p, err = d.Page()
		is(t, "a copy", p, err, want)
		p, err = c.Page()
		fails(t, "a copy on another memory", p, err, api.ErrStale)
		e := *l
		p, err = e.Page()
		is(t, "a copy of one that has finished", p, err, want)
	}
}

func TestCopiesOfALoaderShareNoRecords(t *testing.T) {
	// The two memories differ in the records behind the head.
	a, b := made(t, limits()), made(t, limits())
	for i, m := range []*mem.Memory{a, b} {
		for _, key := range []string{"p", "q", "r", "s", "t"}[i : i+4] {
			onto(t, m, 0, put(key))
		}
	}
	for n := range 6 {
		l := page.Begin(0)
		for range n {
			l.Step(a)
		}
		c := *l
		for range 6 - n { // by turns
			l.Step(a)
			c.Step(b)
		}
		p, err := l.Page()
		is(t, "the original", p, err, moment(t, a, 0))
		p, err = c.Page()
		if err != nil || len(p.Chain) != 5 {
			t.Fatalf("the copy is %+v, %v", p, err)
		}
		for i, r := range p.Chain {
			m := a
			if i >= n-1 {
				m = b
			}
			if records, _, _ := m.Chain(0); !reflect.DeepEqual(r, records[i]) {
				t.Errorf("after %d steps, record %d of the copy is %+v", n, i, r)
			}
		}
	}
}

// A nil Loader; and one that is not from Begin.

func TestNilLoader(t *testing.T) {
	var l *page.Loader
	m := made(t, limits())
	for range 2 {
		if !l.Step(m) || !l.Step(nil) || !l.Over() {
			t.Error("a nil Loader goes on")
		}
		p, err := l.Page()
		fails(t, "a nil Loader", p, err, api.ErrArg)
	}
	counts(t, "a nil Loader", m, 0)
}

func TestZeroLoaderDoesNotPanic(t *testing.T) {
	for _, m := range []*mem.Memory{nil, new(mem.Memory), made(t, limits())} {
		l := new(page.Loader)
		for range 4 {
			l.Over()
			l.Page()
			l.Step(m)
		}
	}
}

// What is handed in stays as it was, and what is handed out is new memory.

// lists are all lists that are handed in or out, by what is in them.
type lists struct {
	chains  [][]api.Record
	refs    [][]api.Ref
	rows    [][]api.Row
	entries [][]api.Entry
}

// add adds the lists of a chain.
func (l *lists) add(chain []api.Record, refs []api.Ref) {
	l.chains, l.refs = append(l.chains, chain), append(l.refs, refs)
	for _, r := range chain {
		l.rows, l.entries = append(l.rows, r.Rows), append(l.entries, r.Entries)
	}
}

// addPage adds the lists of a page.
func (l *lists) addPage(p page.Page) {
	l.add(p.Chain, p.Refs)
	l.rows, l.entries = append(l.rows, p.Rows.Rows), append(l.entries, p.Inner.Entries)
}

// apart asks that no two lists, and nothing in their spare capacity, are in the same memory.
func apart[T any](t *testing.T, name string, all [][]T) {
	t.Helper()
	seen := map[*T]int{}
	for i, l := range all {
		l = l[:cap(l)]
		for j := range l {
			if other, there := seen[&l[j]]; there {
				t.Errorf("%s: lists %d and %d share memory", name, other, i)
			}
			seen[&l[j]] = i
		}
	}
}

// apart asks it of all of them.
func (l *lists) apart(t *testing.T, name string) {
	t.Helper()
	apart(t, name+" (chains)", l.chains)
	apart(t, name+" (refs)", l.refs)
	apart(t, name+" (rows)", l.rows)
	apart(t, name+" (entries)", l.entries)
}

// roomy is a list with an element in its spare capacity.
func roomy[T any](l []T, spare T) []T {
	room := append(slices.Clone(l), spare)
	return room[:len(l)]
}

// roomyChain is a chain that has spare capacity everywhere; its records have lists that their kinds do not have.
func roomyChain(l []api.Record) []api.Record {
	l = slices.Clone(l)
	for i, r := range l {
		if r.Kind < api.InnerBase {
			r.Entries = entries("", "e")
		} else {
			r.Rows = list("x y")
		}
		r.Rows, r.Entries = roomy(r.Rows, api.Row{Key: "spare"}), roomy(r.Entries, api.Entry{Key: "spare"})
		l[i] = r
	}
	return roomy(l, api.Record{Kind: 77})
}

// chains are chains that are valid, of leaves and of inner pages.
func chains() [][]api.Record {
	return [][]api.Record{
		chain(leafOpen("", "a b")),
		chain(leafBase("a", "m", 3, "a b"), put("c"), kind(api.LeafSplit, "c", 7), merge("c", "k", 4, "c d"), kind(api.LeafRemove, "", 0)),
		chain(innerOpen("", "b c")),
		chain(innerBase("a", "m", 3, "b c"), entryPut("d", 8), hold("b", 2, 1), kind(api.InnerDrop, "", 0), kind(api.InnerSplit, "d", 9)),
	}
}

func TestMemoryOfOf(t *testing.T) {
	for _, records := range chains() {
		l, refs := roomyChain(records), roomy([]api.Ref{ref(1, 1), ref(2, 2)}, ref(9, 9))
		a, b := of(t, 1, ref(1, 1), l, refs), of(t, 1, ref(1, 1), l, refs)
		var all lists
		all.add(l, refs)
		all.addPage(a)
		all.addPage(b)
		all.apart(t, "Of")
		// A copy of what was handed in, made in the same way, is still the same, with its spare capacity.
		was, wasRefs := roomyChain(records), roomy([]api.Ref{ref(1, 1), ref(2, 2)}, ref(9, 9))
		n := len(l) + 1
		if !reflect.DeepEqual(l[:n], was[:n]) || !reflect.DeepEqual(refs[:3], wasRefs[:3]) {
			t.Errorf("Of changed its arguments to %+v, %v", l, refs)
		}
		for i, r := range l {
			if r.Rows[:len(r.Rows)+1][len(r.Rows)].Key != "spare" || r.Entries[:len(r.Entries)+1][len(r.Entries)].Key != "spare" {
				t.Errorf("Of changed the spare capacity of record %d", i)
			}
		}
	}
}

func TestMemoryOfALoader(t *testing.T) {
	for _, records := range chains() {
		m := made(t, limits())
		n := take(t, m)
		for _, r := range slices.Backward(roomyChain(records)) {
			onto(t, m, n, r)
		}
		want := moment(t, m, n)
		l := page.Begin(n)
		for !l.Step(m) {
		}
		c := *l
		var all lists
		for _, x := range []*page.Loader{l, l, &c} {
			p, err := x.Page()
			is(t, "a loader", p, err, want)
			all.addPage(p)
		}
		all.addPage(moment(t, m, n))
		all.apart(t, "a loader")
		spoil(&all)
		for _, x := range []*page.Loader{l, &c} {
			p, err := x.Page()
			is(t, "a loader whose results were written over", p, err, want)
		}
		is(t, "a memory", moment(t, m, n), nil, want)
	}
}

// fill puts an element all over lists, and their spare capacity.
func fill[T any](all [][]T, x T) {
	for _, l := range all {
		l = l[:cap(l)]
		for i := range l {
			l[i] = x
		}
	}
}

// spoil writes over all lists.
func spoil(l *lists) {
	fill(l.rows, api.Row{Key: "over"})
	fill(l.entries, api.Entry{Key: "over"})
	fill(l.refs, ref(77, 77))
	fill(l.chains, api.Record{Kind: 77})
}
