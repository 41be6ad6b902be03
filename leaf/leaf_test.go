package leaf_test

import (
	"errors"
	"math"
	"reflect"
	"slices"
	"strings"
	"testing"

	"rowlock/api"
	"rowlock/leaf"
	"rowlock/rows"
)

// code is the code of an error, or 0.
func code(err error) api.Code {
	var c api.Code
	errors.As(err, &c)
	return c
}

// list is rows of keys, each with its place in the text as its value.
func list(keys string) []api.Row {
	var l []api.Row
	for i, k := range strings.Fields(keys) {
		l = append(l, api.Row{Key: k, Value: string(rune('0' + i))})
	}
	return l
}

func text(n int) string { return strings.Repeat("k", n) }

// base is a LeafBase from low up to high.
func base(low, high string, right int, keys string) api.Record {
	return api.Record{Kind: api.LeafBase, Low: low, High: high, Right: right, Rows: list(keys)}
}

// open is a LeafBase from low on.
func open(low string, keys string) api.Record {
	return api.Record{Kind: api.LeafBase, Low: low, Unbounded: true, Rows: list(keys)}
}

func put(key, value string) api.Record {
	return api.Record{Kind: api.LeafPut, Key: key, Value: value}
}

func del(key string) api.Record { return api.Record{Kind: api.LeafDel, Key: key} }

func split(key string, page int) api.Record {
	return api.Record{Kind: api.LeafSplit, Key: key, Page: page}
}

func remove() api.Record { return api.Record{Kind: api.LeafRemove} }

// merge is a LeafMerge from key up to high.
func merge(key, high string, right int, keys string) api.Record {
	return api.Record{Kind: api.LeafMerge, Key: key, High: high, Right: right, Rows: list(keys)}
}

// mergeOpen is a LeafMerge from key on.
func mergeOpen(key string, keys string) api.Record {
	return api.Record{Kind: api.LeafMerge, Key: key, Unbounded: true, Rows: list(keys)}
}

// chain is records in the order in which they came as a chain, the newest first.
func chain(records ...api.Record) []api.Record {
	slices.Reverse(records)
	return records
}

// sameView tells whether two views are the same, with nil rows the same as no rows.
func sameView(a, b leaf.View) bool {
	same := slices.Equal(a.Rows, b.Rows)
	a.Rows, b.Rows = nil, nil
	return same && reflect.DeepEqual(a, b)
}

// sameRecord tells whether two records are the same, with nil slices the same as empty ones.
func sameRecord(a, b api.Record) bool {
	same := slices.Equal(a.Rows, b.Rows) && slices.Equal(a.Entries, b.Entries)
	a.Rows, a.Entries, b.Rows, b.Entries = nil, nil, nil, nil
	return same && reflect.DeepEqual(a, b)
}

// folds is the view of a chain that is valid.
func folds(t *testing.T, l []api.Record) leaf.View {
	t.Helper()
	v, err := leaf.Fold(l)
	if err != nil {
		t.Fatalf("Fold of %+v: %v", l, err)
	}
	return v
}

// foldFails asks that a chain has no view, and no values.
func foldFails(t *testing.T, name string, l []api.Record, want api.Code) {
	t.Helper()
	if v, err := leaf.Fold(l); !sameView(v, leaf.View{}) || code(err) != want {
		t.Errorf("%s: Fold is %+v, %v", name, v, err)
	}
	for _, key := range []string{"", "a", "c", "zz"} {
		if value, there, err := leaf.Search(l, key); value != "" || there || code(err) != want {
			t.Errorf("%s: Search of %q is %q, %v, %v", name, key, value, there, err)
		}
	}
}

// P7.1, Fold.

func TestFold(t *testing.T) {
	row := func(key, value string) api.Row { return api.Row{Key: key, Value: value} }
	for _, c := range []struct {
		name string
		l    []api.Record
		want leaf.View
	}{
		{"a base", chain(base("b", "m", 3, "b c d")), leaf.View{Low: "b", High: "m", Right: 3, Rows: list("b c d")}},
		{"an unbounded base", chain(open("b", "b c d")), leaf.View{Low: "b", Unbounded: true, Rows: list("b c d")}},
		{"a base without rows", chain(base("b", "m", 3, "")), leaf.View{Low: "b", High: "m", Right: 3}},
		{"the first base of a memory", chain(open("", "")), leaf.View{Unbounded: true}},
		{"a base with an empty span", chain(api.Record{Kind: api.LeafBase}), leaf.View{}},
		{"a base with a span that is less than empty", chain(base("m", "b", 3, "")), leaf.View{Low: "m", High: "b", Right: 3}},
		{"a page that no table has", chain(base("b", "m", -7, "b")), leaf.View{Low: "b", High: "m", Right: -7, Rows: list("b")}},

		{"a put of a new key", chain(open("", "a c"), put("b", "x")), leaf.View{Unbounded: true, Rows: []api.Row{row("a", "0"), row("b", "x"), row("c", "1")}}},
		{"a put of a key that is there", chain(open("", "a c"), put("c", "x")), leaf.View{Unbounded: true, Rows: []api.Row{row("a", "0"), row("c", "x")}}},
		{"a put without a value", chain(open("", "a c"), put("c", "")), leaf.View{Unbounded: true, Rows: []api.Row{row("a", "0"), row("c", "")}}},
		{"puts, the newest of which counts", chain(open("", ""), put("a", "x"), put("a", "y")), leaf.View{Unbounded: true, Rows: []api.Row{row("a", "y")}}},
		{"puts out of order", chain(open("", ""), put("c", "x"), put("a", "y"), put("b", "z")), leaf.View{Unbounded: true, Rows: []api.Row{row("a", "y"), row("b", "z"), row("c", "x")}}},

		{"a del", chain(open("", "a b"), del("b")), leaf.View{Unbounded: true, Rows: list("a")}},
		{"a del of a key that is not there", chain(open("", "a b"), del("c")), leaf.View{Unbounded: true, Rows: list("a b")}},
		{"a del of the last row", chain(open("", "a"), del("a")), leaf.View{Unbounded: true}},
		{"a put above a del", chain(open("", "a"), del("a"), put("a", "x")), leaf.View{Unbounded: true, Rows: []api.Row{row("a", "x")}}},
		{"a del above a put", chain(open("", "a"), put("b", "x"), del("b")), leaf.View{Unbounded: true, Rows: list("a")}},

		{"a split", chain(base("b", "m", 3, "b c d"), split("c", 8)), leaf.View{Low: "b", High: "c", Right: 8, Rows: list("b")}},
		{"a split of an unbounded leaf", chain(open("b", "b c d"), split("d", 8)), leaf.View{Low: "b", High: "d", Right: 8, Rows: list("b c")}},
		{"a split between the rows", chain(open("", "ab ad"), split("ac", 8)), leaf.View{High: "ac", Right: 8, Rows: list("ab")}},
		{"a split behind the rows", chain(open("", "a b"), split("m", 8)), leaf.View{High: "m", Right: 8, Rows: list("a b")}},
		{"a split ahead of the rows", chain(open("", "b c"), split("a", 8)), leaf.View{High: "a", Right: 8}},
		{"two splits", chain(open("", "a b c d"), split("c", 8), split("b", 9)), leaf.View{High: "b", Right: 9, Rows: list("a")}},
		{"a put ahead of a split", chain(open("", "a c"), split("c", 8), put("b", "1")), leaf.View{High: "c", Right: 8, Rows: list("a b")}},
		{"a split that takes what was put", chain(open("", "a"), put("c", "x"), split("b", 8)), leaf.View{High: "b", Right: 8, Rows: list("a")}},

		{"a remove", chain(base("b", "m", 3, "b c"), remove()), leaf.View{Low: "b", High: "m", Right: 3, Rows: list("b c"), Gone: true}},
		{"a remove of an unbounded leaf", chain(open("b", "b c"), remove()), leaf.View{Low: "b", Unbounded: true, Rows: list("b c"), Gone: true}},
		{"a remove of a leaf without rows", chain(base("b", "m", 3, "b"), del("b"), remove()), leaf.View{Low: "b", High: "m", Right: 3, Gone: true}},
		{"a remove above a split", chain(open("", "a b"), split("b", 8), remove()), leaf.View{High: "b", Right: 8, Rows: list("a"), Gone: true}},

		{"a merge", chain(base("a", "c", 3, "a b"), merge("c", "m", 7, "")), leaf.View{Low: "a", High: "m", Right: 7, Rows: list("a b")}},
		{"a merge with rows", chain(base("a", "c", 3, "a b"), merge("c", "m", 7, "c d")), leaf.View{Low: "a", High: "m", Right: 7, Rows: []api.Row{row("a", "0"), row("b", "1"), row("c", "0"), row("d", "1")}}},
		{"an unbounded merge", chain(base("a", "c", 3, "a"), mergeOpen("c", "x")), leaf.View{Low: "a", Unbounded: true, Rows: []api.Row{row("a", "0"), row("x", "0")}}},
		{"a merge with a leaf without rows", chain(base("a", "c", 3, ""), merge("c", "m", 7, "c d")), leaf.View{Low: "a", High: "m", Right: 7, Rows: list("c d")}},
		{"a merge above a split", chain(open("", "a b c"), split("b", 8), mergeOpen("b", "b")), leaf.View{Unbounded: true, Rows: []api.Row{row("a", "0"), row("b", "0")}}},
		{"two merges", chain(base("", "b", 3, "a"), merge("b", "c", 4, "b"), merge("c", "d", 5, "c")), leaf.View{High: "d", Right: 5, Rows: []api.Row{row("a", "0"), row("b", "0"), row("c", "0")}}},
		{"a put in what was merged", chain(base("", "b", 3, "a"), merge("b", "d", 4, ""), put("c", "1")), leaf.View{High: "d", Right: 4, Rows: list("a c")}},
		{"a split of what was merged", chain(base("", "b", 3, "a"), merge("b", "d", 4, "b c"), split("c", 5)), leaf.View{High: "c", Right: 5, Rows: []api.Row{row("a", "0"), row("b", "0")}}},
		{"a remove of what was merged", chain(base("", "b", 3, "a"), mergeOpen("b", ""), remove()), leaf.View{Unbounded: true, Rows: list("a"), Gone: true}},
	} {
		if got, err := leaf.Fold(c.l); !sameView(got, c.want) || err != nil {
			t.Errorf("%s: Fold is %+v, %v, not %+v", c.name, got, err, c.want)
		}
	}
}

// noisy is a record with more in the fields that its kind does not have.
func noisy(r api.Record) api.Record {
	r.Entries = []api.Entry{{Key: "e", Page: 1}}
	r.Hold = api.Hold{Page: 1, Left: 2, Key: "h"}
	r.Next = api.Ref{Slot: 3, Gen: 4}
	if r.Kind != api.LeafPut {
		r.Value = text(17)
	}
	if r.Kind != api.LeafSplit {
		r.Page = -9
	}
	if r.Kind == api.LeafBase || r.Kind == api.LeafRemove {
		r.Key = text(17)
	}
	if r.Kind != api.LeafBase {
		r.Low = "zzz"
	}
	if r.Kind != api.LeafBase && r.Kind != api.LeafMerge {
		r.High, r.Unbounded, r.Right, r.Rows = "a", true, -9, list("z y")
	}
	return r
}

func TestFoldPassesOverOtherFields(t *testing.T) {
	l := chain(base("a", "m", 3, "a b c"), put("d", "x"), del("a"), split("d", 8), merge("d", "z", 9, "e"), remove())
	for n := range l {
		want := folds(t, l[n:])
		noise := slices.Clone(l[n:])
		for i, r := range noise {
			noise[i] = noisy(r)
		}
		if got := folds(t, noise); !sameView(got, want) {
			t.Errorf("Fold is %+v, not %+v", got, want)
		}
	}
}

func TestFoldOfOtherKinds(t *testing.T) {
	for _, kind := range []int{0, -1, api.InnerBase, api.InnerPut, api.InnerSplit, api.InnerHold, api.InnerDrop, 12, math.MinInt, math.MaxInt} {
		other := api.Record{Kind: kind, Key: "b", Value: "1", Unbounded: true}
		foldFails(t, "by itself", chain(other), api.ErrKind)
		foldFails(t, "at the bottom", chain(other, put("b", "1")), api.ErrKind)
		foldFails(t, "between", chain(open("", "a"), other, put("b", "1")), api.ErrKind)
		foldFails(t, "on top", chain(open("", "a"), put("b", "1"), other), api.ErrKind)
		foldFails(t, "above a remove", chain(open("", "a"), remove(), other), api.ErrKind)
		foldFails(t, "in a chain without a base", chain(put("b", "1"), other), api.ErrKind)
		foldFails(t, "in a chain with two bases", chain(open("", "a"), open("", "a"), other), api.ErrKind)
		foldFails(t, "above rows that are not valid", chain(open("", "b a"), other), api.ErrKind)
		foldFails(t, "below a put out of the span", chain(base("", "b", 0, "a"), other, put("c", "1")), api.ErrKind)
	}
}

func TestFoldWithoutJustOneBaseAtTheBottom(t *testing.T) {
	foldFails(t, "nil", nil, api.ErrChain)
	foldFails(t, "no records", []api.Record{}, api.ErrChain)
	for _, r := range []api.Record{put("a", "1"), del("a"), split("a", 1), remove(), merge("", "a", 1, ""), mergeOpen("", "a")} {
		foldFails(t, "no base", chain(r), api.ErrChain)
		foldFails(t, "no base, with one more record", chain(r, put("a", "1")), api.ErrChain)
		foldFails(t, "a base on top", chain(r, open("", "a")), api.ErrChain)
		foldFails(t, "a base between", chain(r, open("", "a"), put("a", "1")), api.ErrChain)
	}
	foldFails(t, "two bases", chain(open("", "a"), open("", "a")), api.ErrChain)
	foldFails(t, "two bases without rows", chain(open("", ""), open("", "")), api.ErrChain)
	foldFails(t, "two bases with a put between", chain(open("", ""), put("a", "1"), open("", "")), api.ErrChain)
	foldFails(t, "two bases below a put", chain(open("", ""), open("", ""), put("a", "1")), api.ErrChain)
}

// long is the record with these rows.
func long(r api.Record, l ...api.Row) api.Record {
	r.Rows = l
	return r
}

func TestFoldOfABaseThatIsNotValid(t *testing.T) {
	for _, c := range []struct {
		name string
		r    api.Record
		good bool
	}{
		{"rows that fall", open("", "b a"), false},
		{"equal rows", open("", "a a"), false},
		{"an empty key", long(open("", ""), api.Row{}), false},
		{"a key of 16 bytes", long(open("", ""), api.Row{Key: text(16)}), true},
		{"a key of 17 bytes", long(open("", ""), api.Row{Key: text(17)}), false},
		{"a value of 16 bytes", long(open("", ""), api.Row{Key: "a", Value: text(16)}), true},
		{"a value of 17 bytes", long(open("", ""), api.Row{Key: "a", Value: text(17)}), false},
		{"a row before Low", base("b", "m", 0, "a c"), false},
		{"a row before Low of an unbounded base", open("b", "a c"), false},
		{"a row at Low", base("b", "m", 0, "b c"), true},
		{"a row right before High", base("b", "m", 0, "c lzz"), true},
		{"a row at High", base("b", "m", 0, "c m"), false},
		{"a row after High", base("b", "m", 0, "c n"), false},
		{"only a row after High", base("b", "m", 0, "n"), false},
		{"a row in an empty span", base("b", "b", 0, "b"), false},
		{"a row where High is empty", base("", "", 0, "a"), false},
		{"unbounded, with High", api.Record{Kind: api.LeafBase, High: "m", Unbounded: true, Rows: list("a")}, false},
		{"unbounded, with High and without rows", api.Record{Kind: api.LeafBase, High: "m", Unbounded: true}, false},
		{"bytes, not runes", base("\x7f", "\xff", 0, "\xc3 \xfe"), true},
	} {
		if c.good {
			folds(t, chain(c.r))
			folds(t, chain(c.r, remove()))
			continue
		}
		foldFails(t, c.name, chain(c.r), api.ErrChain)
		foldFails(t, c.name+", removed", chain(c.r, remove()), api.ErrChain)
	}
}

func TestFoldOfAChangeThatIsNotValid(t *testing.T) {
	b := base("b", "m", 3, "b c")
	o := open("b", "b c")
	for _, c := range []struct {
		name  string
		below api.Record
		r     api.Record
		good  bool
	}{
		{"a put at Low", b, put("b", "1"), true},
		{"a put before Low", b, put("azz", "1"), false},
		{"a put right before High", b, put("lzz", "1"), true},
		{"a put at High", b, put("m", "1"), false},
		{"a put after High", b, put("n", "1"), false},
		{"a put far behind in an unbounded leaf", o, put("\xff\xff", "1"), true},
		{"a put before Low of an unbounded leaf", o, put("a", "1"), false},
		{"a put of an empty key", open("", ""), put("", "1"), false},
		{"a put of a key of 16 bytes", o, put(text(16), "1"), true},
		{"a put of a key of 17 bytes", o, put(text(17), "1"), false},
		{"a put of a value of 16 bytes", o, put("c", text(16)), true},
		{"a put of a value of 17 bytes", o, put("c", text(17)), false},
		{"a put of a long key", o, put(text(1<<20), "1"), false},

		{"a del at Low", b, del("b"), true},
		{"a del before Low", b, del("a"), false},
		{"a del right before High", b, del("lzz"), true},
		{"a del at High", b, del("m"), false},
		{"a del after High", b, del("n"), false},
		{"a del far behind in an unbounded leaf", o, del("\xff\xff"), true},
		{"a del before Low of an unbounded leaf", o, del(""), false},
		{"a del of what is no key, but in the span", open("", "a"), del(""), true},
		{"a del of 17 bytes", o, del(text(17)), true},
		{"a del where nothing is in the span", base("b", "b", 0, ""), del("b"), false},

		{"a split at Low", b, split("b", 1), false},
		{"a split at an empty Low", open("", "a"), split("", 1), false},
		{"a split right after Low", b, split("b\x00", 1), true},
		{"a split before Low", b, split("a", 1), false},
		{"a split right before High", b, split("lzz", 1), true},
		{"a split at High", b, split("m", 1), false},
		{"a split after High", b, split("n", 1), false},
		{"a split at Low of an unbounded leaf", o, split("b", 1), false},
		{"a split before Low of an unbounded leaf", o, split("a", 1), false},
		{"a split far behind in an unbounded leaf", o, split("\xff\xff", 1), true},
		{"a split at 17 bytes", o, split(text(17), 1), true},

		{"a merge at High", b, merge("m", "p", 1, "m n"), true},
		{"a merge at High up to no end", b, mergeOpen("m", "m n"), true},
		{"a merge before High", b, merge("l", "p", 1, "m n"), false},
		{"a merge after High", b, merge("n", "p", 1, "n"), false},
		{"a merge with an empty Key", b, merge("", "p", 1, "m n"), false},
		{"a merge with an unbounded leaf", o, merge("", "p", 1, ""), false},
		{"a merge with an unbounded leaf, up to no end", o, mergeOpen("", ""), false},
		{"a merge up to its Key", b, merge("m", "m", 1, ""), false},
		{"a merge up to before its Key", b, merge("m", "l", 1, ""), false},
		{"a merge up to an empty High", b, merge("m", "", 1, ""), false},
		{"a merge up to right after its Key", b, merge("m", "m\x00", 1, "m"), true},
		{"a merge without rows", b, merge("m", "p", 1, ""), true},
		{"a merge up to no end without rows", b, mergeOpen("m", ""), true},
		{"a merge up to no end, with High", b, api.Record{Kind: api.LeafMerge, Key: "m", High: "p", Unbounded: true}, false},
		{"a merge of a row before its Key", b, merge("m", "p", 1, "lzz n"), false},
		{"a merge up to no end of a row before its Key", b, mergeOpen("m", "lzz n"), false},
		{"a merge of a row at its High", b, merge("m", "p", 1, "n p"), false},
		{"a merge of a row after its High", b, merge("m", "p", 1, "n q"), false},
		{"a merge of a row right before its High", b, merge("m", "p", 1, "n ozz"), true},
		{"a merge of rows that fall", b, merge("m", "p", 1, "n m"), false},
		{"a merge of equal rows", b, mergeOpen("m", "n n"), false},
		{"a merge of a key of 17 bytes", b, long(mergeOpen("m", ""), api.Row{Key: "n" + text(16)}), false},
		{"a merge of a value of 17 bytes", b, long(mergeOpen("m", ""), api.Row{Key: "n", Value: text(17)}), false},
		{"a merge of a key and a value of 16 bytes", b, long(mergeOpen("m", ""), api.Row{Key: "n" + text(15), Value: text(16)}), true},
		{"a merge of an empty key", base("a", "", 0, ""), long(mergeOpen("", ""), api.Row{}), false},

		{"a remove", b, remove(), true},
		{"a remove of an empty span", base("m", "b", 0, ""), remove(), true},
	} {
		if c.good {
			folds(t, chain(c.below, c.r))
			continue
		}
		foldFails(t, c.name, chain(c.below, c.r), api.ErrChain)
		foldFails(t, c.name+", removed", chain(c.below, c.r, remove()), api.ErrChain)
	}
}

func TestFoldAsksForTheSpanAtThatPoint(t *testing.T) {
	b := base("b", "m", 3, "b f")
	// The span has become less.
	folds(t, chain(b, put("h", "1"), split("f", 1)))
	folds(t, chain(b, split("f", 1), put("ezz", "1")))
	foldFails(t, "a put above a split", chain(b, split("f", 1), put("f", "1")), api.ErrChain)
	foldFails(t, "a del above a split", chain(b, split("f", 1), del("f")), api.ErrChain)
	foldFails(t, "a split above the same one", chain(b, split("f", 1), split("f", 1)), api.ErrChain)
	foldFails(t, "a split above another one", chain(b, split("f", 1), split("h", 1)), api.ErrChain)
	foldFails(t, "a merge at what was High", chain(b, split("f", 1), mergeOpen("m", "")), api.ErrChain)
	foldFails(t, "a put above a split of an unbounded leaf", chain(open("", ""), split("f", 1), put("g", "1")), api.ErrChain)
	// The span has become more.
	folds(t, chain(b, merge("m", "p", 1, ""), put("m", "1"), del("ozz"), split("n", 1)))
	folds(t, chain(b, mergeOpen("m", ""), put("z", "1"), del("zz"), split("z", 1)))
	foldFails(t, "a put below a merge", chain(b, put("m", "1"), merge("m", "p", 1, "")), api.ErrChain)
	foldFails(t, "a put above a merge", chain(b, merge("m", "p", 1, ""), put("p", "1")), api.ErrChain)
	foldFails(t, "the same merge once more", chain(b, merge("m", "p", 1, ""), merge("m", "p", 1, "")), api.ErrChain)
	foldFails(t, "a merge above an unbounded one", chain(b, mergeOpen("m", ""), mergeOpen("", "")), api.ErrChain)
}

func TestFoldWithSomethingAboveARemove(t *testing.T) {
	b := base("b", "m", 3, "b f")
	for _, r := range []api.Record{put("c", "1"), del("b"), del("c"), split("f", 1), remove(), merge("m", "p", 1, ""), mergeOpen("m", ""), b} {
		foldFails(t, "above a remove", chain(b, remove(), r), api.ErrChain)
		foldFails(t, "above a remove of a changed leaf", chain(b, put("c", "1"), remove(), r), api.ErrChain)
	}
}

// P7.1, Search.

func TestSearch(t *testing.T) {
	l := chain(base("b", "m", 3, "b c d"), put("e", "x"), del("c"), put("d", "y"), put("f", ""))
	for _, c := range []struct {
		key, value string
		there      bool
		code       api.Code
	}{
		{"b", "0", true, 0},
		{"c", "", false, 0},
		{"d", "y", true, 0},
		{"e", "x", true, 0},
		{"f", "", true, 0},
		{"g", "", false, 0},
		{"b\x00", "", false, 0},
		{"lzz", "", false, 0},
		{"c" + text(20), "", false, 0}, // no key, but in the span
		{"a", "", false, api.ErrRange},
		{"azz", "", false, api.ErrRange},
		{"", "", false, api.ErrRange},
		{"m", "", false, api.ErrRange},
		{"n", "", false, api.ErrRange},
		{"\xff", "", false, api.ErrRange},
		{strings.Repeat("m", 1<<20), "", false, api.ErrRange},
	} {
		if value, there, err := leaf.Search(l, c.key); value != c.value || there != c.there || code(err) != c.code {
			t.Errorf("Search of %.20q is %q, %v, %v", c.key, value, there, err)
		}
	}
}

func TestSearchInAnUnboundedLeaf(t *testing.T) {
	l := chain(open("", "b"))
	for _, key := range []string{"", "a", "bb", "\xff\xff", text(17)} {
		if value, there, err := leaf.Search(l, key); value != "" || there || err != nil {
			t.Errorf("Search of %q is %q, %v, %v", key, value, there, err)
		}
	}
	if value, there, err := leaf.Search(l, "b"); value != "0" || !there || err != nil {
		t.Errorf("Search of b is %q, %v, %v", value, there, err)
	}
}

func TestSearchAboveASplitAndAMerge(t *testing.T) {
	l := chain(open("", "a b c"), split("b", 8))
	for _, key := range []string{"b", "c", "d"} {
		if value, there, err := leaf.Search(l, key); value != "" || there || code(err) != api.ErrRange {
			t.Errorf("Search of %q is %q, %v, %v", key, value, there, err)
		}
	}
	l = chain(open("", "a b c"), split("b", 8), merge("b", "d", 9, "b"))
	for key, want := range map[string]api.Code{"a": 0, "b": 0, "d": api.ErrRange} {
		if value, there, err := leaf.Search(l, key); there != (want == 0) || code(err) != want {
			t.Errorf("Search of %q is %q, %v, %v", key, value, there, err)
		}
	}
}

func TestSearchInALeafThatIsGone(t *testing.T) {
	l := chain(base("b", "m", 3, "b c"), remove())
	for _, key := range []string{"b", "d", "a", "m", ""} { // whether it is in the span or not
		if value, there, err := leaf.Search(l, key); value != "" || there || code(err) != api.ErrState {
			t.Errorf("Search of %q is %q, %v, %v", key, value, there, err)
		}
	}
}

// P7.2, Base.

func TestBase(t *testing.T) {
	for _, v := range []leaf.View{
		{},
		{Unbounded: true},
		{Low: "b", High: "m", Right: 3, Rows: list("b c")},
		{Low: "b", Unbounded: true, Right: -1, Rows: list("b")},
		{Low: "b", High: "m", Right: 3, Rows: list("b c"), Gone: true},
		{Low: "m", High: "b", Unbounded: true, Right: math.MaxInt, Rows: list("c b b")}, // as it is, valid or not
	} {
		want := api.Record{Kind: api.LeafBase, Low: v.Low, High: v.High, Unbounded: v.Unbounded, Right: v.Right, Rows: v.Rows}
		if got := leaf.Base(v); !sameRecord(got, want) {
			t.Errorf("Base of %+v is %+v", v, got)
		}
	}
}

// P7.2, Split and Grow.

// views are views of leaves that can be halved: with even and odd numbers of rows, bounded or not.
func views() []leaf.View {
	var all []leaf.View
	for _, keys := range []string{"b c", "b c d", "b c d e", "b c d e f", "bapple bapricot", "b ba baa bab"} {
		all = append(all, leaf.View{Unbounded: true, Rows: list(keys)}, leaf.View{Low: "b", High: "m", Right: 3, Rows: list(keys)})
	}
	return all
}

// halved are the bases of the halves of a view, and the separator.
func halved(t *testing.T, v leaf.View, page int) (api.Record, api.Record, string) {
	t.Helper()
	separator, first, second, err := rows.Halve(v.Rows)
	if err != nil {
		t.Fatalf("Halve of %v: %v", v.Rows, err)
	}
	left := api.Record{Kind: api.LeafBase, Low: v.Low, High: separator, Right: page, Rows: first}
	right := api.Record{Kind: api.LeafBase, Low: separator, High: v.High, Unbounded: v.Unbounded, Right: v.Right, Rows: second}
	return left, right, separator
}

func TestSplit(t *testing.T) {
	for _, v := range views() {
		for _, page := range []int{0, 3, 8, -1, math.MinInt, math.MaxInt} {
			_, right, separator := halved(t, v, page)
			delta, got, err := leaf.Split(v, page)
			if !sameRecord(delta, split(separator, page)) || !sameRecord(got, right) || err != nil {
				t.Errorf("Split of %+v is %+v, %+v, %v", v, delta, got, err)
			}
		}
	}
}

// Example 1.
func TestSplitOfFourRows(t *testing.T) {
	b := open("", "a b c d")
	delta, right, err := leaf.Split(folds(t, chain(b)), 5)
	if !sameRecord(delta, split("c", 5)) || err != nil {
		t.Fatalf("Split is %+v, %v", delta, err)
	}
	if got := folds(t, chain(b, delta)); !slices.Equal(got.Rows, list("a b")) || got.High != "c" || got.Right != 5 {
		t.Errorf("Split leaves %+v", got)
	}
	if !slices.Equal(right.Rows, []api.Row{{Key: "c", Value: "2"}, {Key: "d", Value: "3"}}) || right.Low != "c" || !right.Unbounded {
		t.Errorf("the right half is %+v", right)
	}
}

func TestGrow(t *testing.T) {
	for _, v := range views() {
		for _, p := range [][2]int{{1, 2}, {2, 1}, {7, 7}, {0, -1}, {math.MaxInt, math.MinInt}} {
			left, right, separator := halved(t, v, p[1])
			top := api.Record{Kind: api.InnerBase, Low: v.Low, High: v.High, Unbounded: v.Unbounded, Right: v.Right}
			top.Entries = []api.Entry{{Key: v.Low, Page: p[0]}, {Key: separator, Page: p[1]}}
			gotLeft, gotRight, gotTop, err := leaf.Grow(v, p[0], p[1])
			if !sameRecord(gotLeft, left) || !sameRecord(gotRight, right) || !sameRecord(gotTop, top) || err != nil {
				t.Errorf("Grow of %+v is %+v, %+v, %+v, %v", v, gotLeft, gotRight, gotTop, err)
			}
		}
	}
}

// halfFails asks that a view can be neither split nor grown.
func halfFails(t *testing.T, v leaf.View, want api.Code) {
	t.Helper()
	var none api.Record
	if a, b, err := leaf.Split(v, 5); !sameRecord(a, none) || !sameRecord(b, none) || code(err) != want {
		t.Errorf("Split of %+v is %+v, %+v, %v", v, a, b, err)
	}
	if a, b, c, err := leaf.Grow(v, 5, 6); !sameRecord(a, none) || !sameRecord(b, none) || !sameRecord(c, none) || code(err) != want {
		t.Errorf("Grow of %+v is %+v, %+v, %+v, %v", v, a, b, c, err)
	}
}

func TestWhatCanNotBeHalved(t *testing.T) {
	halfFails(t, leaf.View{}, api.ErrRange)
	halfFails(t, leaf.View{Unbounded: true, Rows: list("a")}, api.ErrRange)
	halfFails(t, leaf.View{Unbounded: true, Rows: list("b a")}, api.ErrArg)
	halfFails(t, leaf.View{Unbounded: true, Rows: list("a c c d")}, api.ErrArg)
	halfFails(t, leaf.View{Unbounded: true, Rows: list("a b c d"), Gone: true}, api.ErrState)
	halfFails(t, leaf.View{Unbounded: true, Rows: list("a"), Gone: true}, api.ErrState)
	halfFails(t, leaf.View{Unbounded: true, Rows: list("b a"), Gone: true}, api.ErrState)
	halfFails(t, leaf.View{Gone: true}, api.ErrState)
}

func TestHalvesOfRowsThatAreNotValid(t *testing.T) {
	// Only the rows at the middle are looked at.
	v := leaf.View{Unbounded: true, Rows: list("c a b a")}
	delta, right, err := leaf.Split(v, 5)
	if delta.Key != "b" || !slices.Equal(right.Rows, v.Rows[2:]) || err != nil {
		t.Errorf("Split is %+v, %+v, %v", delta, right, err)
	}
}

// P7.2, Merge.

func TestMerge(t *testing.T) {
	for _, v := range append(views(), leaf.View{}, leaf.View{Low: "b", High: "m", Right: 3}, leaf.View{Low: "b", Unbounded: true, Right: -1}, leaf.View{Low: "m", High: "b", Unbounded: true, Rows: list("c b b")}) {
		if got, err := leaf.Merge(v); !sameRecord(got, api.Record{}) || code(err) != api.ErrState {
			t.Errorf("Merge of %+v is %+v, %v", v, got, err)
		}
		v.Gone = true
		want := api.Record{Kind: api.LeafMerge, Key: v.Low, High: v.High, Unbounded: v.Unbounded, Right: v.Right, Rows: v.Rows}
		if got, err := leaf.Merge(v); !sameRecord(got, want) || err != nil {
			t.Errorf("Merge of %+v is %+v, %v", v, got, err)
		}
	}
}

// All short chains, against a model that keeps its rows in a map.

type model struct {
	low, high string
	unbounded bool
	right     int
	rows      map[string]string
	gone      bool
}

// within tells whether a key is from low on, up to high.
func within(low, high string, unbounded bool, key string) bool {
	return low <= key && (unbounded || key < high)
}

// fill puts rows of a base or a merge into a model, and tells whether they may be there.
func (m *model) fill(low string, r api.Record) bool {
	if r.Unbounded && r.High != "" {
		return false
	}
	before := ""
	for _, x := range r.Rows {
		if x.Key <= before || len(x.Key) > 16 || len(x.Value) > 16 || !within(low, r.High, r.Unbounded, x.Key) {
			return false
		}
		before = x.Key
		m.rows[x.Key] = x.Value
	}
	m.high, m.unbounded, m.right = r.High, r.Unbounded, r.Right
	return true
}

// change does what a record above a base does, and tells whether it may.
func (m *model) change(r api.Record) bool {
	in := within(m.low, m.high, m.unbounded, r.Key)
	if m.gone {
		return false
	}
	switch r.Kind {
	case api.LeafPut:
		m.rows[r.Key] = r.Value
		return in && r.Key != "" && len(r.Key) <= 16 && len(r.Value) <= 16
	case api.LeafDel:
		delete(m.rows, r.Key)
		return in
	case api.LeafSplit:
		for k := range m.rows {
			if k >= r.Key {
				delete(m.rows, k)
			}
		}
		good := in && r.Key > m.low
		m.high, m.unbounded, m.right = r.Key, false, r.Page
		return good
	case api.LeafRemove:
		m.gone = true
		return true
	case api.LeafMerge:
		return !m.unbounded && m.high == r.Key && (r.Unbounded || r.High > r.Key) && m.fill(r.Key, r)
	}
	return false
}

// view is what a model is.
func (m *model) view() leaf.View {
	v := leaf.View{Low: m.low, High: m.high, Unbounded: m.unbounded, Right: m.right, Gone: m.gone}
	for k, value := range m.rows {
		v.Rows = append(v.Rows, api.Row{Key: k, Value: value})
	}
	slices.SortFunc(v.Rows, func(a, b api.Row) int { return strings.Compare(a.Key, b.Key) })
	return v
}

// modelled is the view of a chain by the model, if it is valid.
func modelled(l []api.Record) (leaf.View, bool) {
	m := &model{rows: map[string]string{}}
	for i := len(l) - 1; i >= 0; i-- {
		if i == len(l)-1 {
			m.low = l[i].Low
			if l[i].Kind != api.LeafBase || !m.fill(m.low, l[i]) {
				return leaf.View{}, false
			}
		} else if !m.change(l[i]) {
			return leaf.View{}, false
		}
	}
	return m.view(), len(l) > 0
}

// changes are records that come above a base.
func changes() []api.Record {
	return []api.Record{
		put("a", "x"), put("c", "y"), put("d", text(16)), put("f", ""), put("", "1"), put("c", text(17)),
		del("a"), del("c"), del("d"), del(""),
		split("a", 5), split("c", 6), split("d", 7), split("", 8),
		merge("c", "d", 9, "c"), merge("c", "f", 10, ""), merge("f", "h", 11, "f g"), mergeOpen("c", "d"), mergeOpen("f", "c"), mergeOpen("", ""),
		remove(),
	}
}

// everyChain calls with each chain of a base and up to n changes.
func everyChain(n int, call func(l []api.Record)) {
	var grow func(l []api.Record, n int)
	grow = func(l []api.Record, n int) {
		call(l)
		if n == 0 {
			return
		}
		for _, r := range changes() {
			grow(append([]api.Record{r}, l...), n-1)
		}
	}
	for _, b := range []api.Record{open("", ""), open("", "a c d"), open("c", "c d"), base("", "c", 3, "a b"), base("a", "f", 4, "a c d"), base("c", "c", 5, ""), base("c", "f", 6, "a"), put("c", "z")} {
		grow([]api.Record{b}, n)
	}
}

func TestEveryShortChain(t *testing.T) {
	valid := 0
	everyChain(3, func(l []api.Record) {
		want, good := modelled(l)
		got, err := leaf.Fold(l)
		if good != (err == nil) || !good && code(err) != api.ErrChain || !sameView(got, want) {
			t.Fatalf("Fold of %+v is %+v, %v, not %+v, %v", l, got, err, want, good)
		}
		if !good {
			return
		}
		valid++
		checkSearch(t, l, want)
		checkBase(t, want)
	})
	if valid < 1000 {
		t.Errorf("only %d chains are valid", valid)
	}
}

// checkSearch asks for what each key has.
func checkSearch(t *testing.T, l []api.Record, v leaf.View) {
	t.Helper()
	for _, key := range []string{"", "a", "b", "c", "d", "f", "g"} {
		var want string
		var has bool
		var wrong api.Code
		switch {
		case v.Gone:
			wrong = api.ErrState
		case !within(v.Low, v.High, v.Unbounded, key):
			wrong = api.ErrRange
		default:
			for _, r := range v.Rows {
				if r.Key == key {
					want, has = r.Value, true
				}
			}
		}
		if value, there, err := leaf.Search(l, key); value != want || there != has || code(err) != wrong {
			t.Fatalf("Search of %q in %+v is %q, %v, %v", key, l, value, there, err)
		}
	}
}

// P7.3.

func checkBase(t *testing.T, v leaf.View) {
	t.Helper()
	l := []api.Record{leaf.Base(v)}
	if v.Gone {
		l = append([]api.Record{remove()}, l...) // a base does not tell that its page is gone
	}
	if got, err := leaf.Fold(l); !sameView(got, v) || err != nil {
		t.Fatalf("the view of the base of %+v is %+v, %v", v, got, err)
	}
}

// P7.4.

// subsets are all valid lists of keys.
func subsets(keys string) [][]api.Row {
	all := [][]api.Row{nil}
	for _, k := range strings.Fields(keys) {
		for _, l := range all {
			all = append(all, append(slices.Clone(l), api.Row{Key: k, Value: k + k}))
		}
	}
	return all
}

func TestSplitAndMergeAgain(t *testing.T) {
	for _, l := range subsets("b ba bab bb c ca") {
		for _, whole := range []leaf.View{{Unbounded: true, Rows: l}, {Low: "b", High: "m", Right: 3, Rows: l}} {
			delta, rightBase, err := leaf.Split(whole, 8)
			if len(l) < 2 {
				halfFails(t, whole, api.ErrRange)
				continue
			}
			if err != nil {
				t.Fatalf("Split of %+v: %v", whole, err)
			}
			left := folds(t, chain(leaf.Base(whole), delta))
			right := folds(t, chain(rightBase))
			checkParts(t, whole, left, right)
			checkParted(t, whole, left, right)
			checkMerged(t, whole, chain(leaf.Base(whole), delta), rightBase)
		}
	}
}

// checkParts asks that two leaves have the rows of one, each its part.
func checkParts(t *testing.T, whole, left, right leaf.View) {
	t.Helper()
	if !slices.Equal(slices.Concat(left.Rows, right.Rows), whole.Rows) || len(left.Rows) != len(whole.Rows)/2 {
		t.Fatalf("the parts of %+v are %+v and %+v", whole, left, right)
	}
	if left.Low != whole.Low || left.High != right.Low || left.Unbounded || left.Right != 8 || left.Gone {
		t.Fatalf("the left part of %+v is %+v", whole, left)
	}
	if right.High != whole.High || right.Unbounded != whole.Unbounded || right.Right != whole.Right || right.Gone {
		t.Fatalf("the right part of %+v is %+v", whole, right)
	}
}

// checkParted asks that a leaf that grows has the same two leaves below.
func checkParted(t *testing.T, whole, left, right leaf.View) {
	t.Helper()
	leftBase, rightBase, top, err := leaf.Grow(whole, 7, 8)
	if err != nil {
		t.Fatalf("Grow of %+v: %v", whole, err)
	}
	if !sameView(folds(t, chain(leftBase)), left) || !sameView(folds(t, chain(rightBase)), right) {
		t.Fatalf("Grow of %+v is %+v and %+v", whole, leftBase, rightBase)
	}
	if want := []api.Entry{{Key: left.Low, Page: 7}, {Key: right.Low, Page: 8}}; !slices.Equal(top.Entries, want) {
		t.Fatalf("Grow of %+v has the entries %+v", whole, top.Entries)
	}
}

// checkMerged asks that a leaf has all of its rows again after its right half is gone and was merged into it.
func checkMerged(t *testing.T, whole leaf.View, left []api.Record, rightBase api.Record) {
	t.Helper()
	delta, err := leaf.Merge(folds(t, chain(rightBase, remove())))
	if err != nil {
		t.Fatalf("Merge: %v", err)
	}
	if got := folds(t, append([]api.Record{delta}, left...)); !sameView(got, whole) {
		t.Fatalf("%+v is merged to %+v", whole, got)
	}
}

// What is handed in stays as it was, and what is handed out is new memory.

// roomy is rows with spare capacity that others may have something in.
func roomy(l []api.Row) []api.Row {
	room := append(slices.Clone(l), api.Row{Key: "spare", Value: "1"}, api.Row{Key: "spare", Value: "2"})
	return room[:len(l)]
}

// snapshot is rows with what is in their spare capacity, each list in memory of its own.
func snapshot(lists [][]api.Row) [][]api.Row {
	var s [][]api.Row
	for _, l := range lists {
		s = append(s, slices.Clone(l[:cap(l)]))
	}
	return s
}

// checkMemory writes over each list of results in turn, and asks that nothing else changes.
func checkMemory(t *testing.T, name string, given [][]api.Row, call func() [][]api.Row) {
	t.Helper()
	was := snapshot(given)
	lists := append(slices.Clone(given), call()...)
	if !slices.EqualFunc(snapshot(given), was, slices.Equal) {
		t.Errorf("%s changed what was handed in", name)
	}
	for i := len(given); i < len(lists); i++ {
		want := snapshot(lists)
		for j, r := range lists[i][:cap(lists[i])] {
			lists[i][:cap(lists[i])][j] = api.Row{Key: "over" + r.Key, Value: "written"}
		}
		got := snapshot(lists)
		got[i] = want[i]
		if !slices.EqualFunc(got, want, slices.Equal) {
			t.Errorf("%s: result %d shares memory", name, i-len(given))
		}
	}
}

func TestMemoryOfFold(t *testing.T) {
	b := base("a", "m", 3, "a b c d")
	for _, l := range [][]api.Record{
		chain(b),
		chain(b, put("e", "x")),
		chain(b, put("a", "x")),
		chain(b, del("d")),
		chain(b, del("e")),
		chain(b, split("c", 8)),
		chain(b, split("e", 8)),
		chain(b, remove()),
		chain(b, mergeOpen("m", "m n")),
		chain(b, mergeOpen("m", "")),
		chain(base("a", "m", 3, ""), mergeOpen("m", "m n")),
		chain(b, put("e", "x"), split("c", 8), merge("c", "m", 9, "c"), remove()),
	} {
		var given [][]api.Row
		for i, r := range l {
			l[i].Rows = roomy(r.Rows)
			given = append(given, l[i].Rows)
		}
		was := slices.Clone(l)
		checkMemory(t, "Fold", given, func() [][]api.Row {
			leaf.Search(l, "a")
			return [][]api.Row{folds(t, l).Rows, folds(t, l).Rows}
		})
		if !reflect.DeepEqual(l, was) {
			t.Errorf("Fold changed its chain to %+v", l)
		}
	}
}

func TestMemoryOfRecords(t *testing.T) {
	for _, v := range views() {
		v.Rows = roomy(v.Rows)
		gone := v
		gone.Gone = true
		checkMemory(t, "a record", [][]api.Row{v.Rows}, func() [][]api.Row {
			_, half, _ := leaf.Split(v, 8)
			left, right, top, _ := leaf.Grow(v, 7, 8)
			delta, _ := leaf.Merge(gone)
			return [][]api.Row{leaf.Base(v).Rows, leaf.Base(v).Rows, leaf.Base(gone).Rows, half.Rows, left.Rows, right.Rows, top.Rows, delta.Rows}
		})
	}
}

func TestEntriesAreNewMemory(t *testing.T) {
	v := views()[0]
	_, _, one, _ := leaf.Grow(v, 1, 2)
	clear(one.Entries[:cap(one.Entries)])
	if _, _, two, _ := leaf.Grow(v, 1, 2); !slices.Equal(two.Entries, []api.Entry{{Page: 1}, {Key: "c", Page: 2}}) {
		t.Errorf("Grow has the entries %+v the second time", two.Entries)
	}
}

// Long chains and many rows.

func TestALongChain(t *testing.T) {
	const n = 500
	key := func(i int) string { return string([]byte{byte(i >> 8), byte(i)}) }
	l := []api.Record{open("", "")}
	for i := range n {
		l = append(l, put(key(i*7%n), key(i)))
	}
	for i := range n / 2 {
		l = append(l, del(key(2*i)))
	}
	v := folds(t, chain(l...))
	if len(v.Rows) != n/2 || !rows.Right(v.Rows) {
		t.Fatalf("%d rows", len(v.Rows))
	}
	for i, r := range v.Rows {
		if r.Key != key(2*i+1) {
			t.Fatalf("row %d is %q", i, r.Key)
		}
	}
	delta, right, err := leaf.Split(v, 8)
	if delta.Key != right.Rows[0].Key || len(right.Rows) != n/4 || err != nil {
		t.Errorf("Split is %+v, %d rows, %v", delta, len(right.Rows), err)
	}
}
