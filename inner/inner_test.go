package inner_test

import (
	"errors"
	"math"
	"reflect"
	"slices"
	"strings"
	"testing"

	"rowlock/api"
	"rowlock/inner"
)

// code is the code of an error, or 0.
func code(err error) api.Code {
	var c api.Code
	errors.As(err, &c)
	return c
}

func text(n int) string { return strings.Repeat("k", n) }

// list is an entry of low with page 1, and entries of keys with pages from 2 on.
func list(low, keys string) []api.Entry {
	l := []api.Entry{{Key: low, Page: 1}}
	for i, k := range strings.Fields(keys) {
		l = append(l, api.Entry{Key: k, Page: i + 2})
	}
	return l
}

// base is an InnerBase from low up to high, with an entry of low and of keys.
func base(low, high string, right int, keys string) api.Record {
	return api.Record{Kind: api.InnerBase, Low: low, High: high, Right: right, Entries: list(low, keys)}
}

// open is an InnerBase from low on, with an entry of low and of keys.
func open(low, keys string) api.Record {
	return api.Record{Kind: api.InnerBase, Low: low, Unbounded: true, Entries: list(low, keys)}
}

// with is a record with other entries.
func with(r api.Record, l ...api.Entry) api.Record {
	r.Entries = l
	return r
}

func put(key string, page int) api.Record {
	return api.Record{Kind: api.InnerPut, Key: key, Page: page}
}

func split(key string, page int) api.Record {
	return api.Record{Kind: api.InnerSplit, Key: key, Page: page}
}

func hold(key string, page, left int) api.Record {
	return api.Record{Kind: api.InnerHold, Hold: api.Hold{Page: page, Left: left, Key: key}}
}

func drop() api.Record { return api.Record{Kind: api.InnerDrop} }

// chain is records in the order in which they came as a chain, the newest first.
func chain(records ...api.Record) []api.Record {
	slices.Reverse(records)
	return records
}

// sameView tells whether two views are the same, with nil entries the same as no entries.
func sameView(a, b inner.View) bool {
	same := slices.Equal(a.Entries, b.Entries)
	a.Entries, b.Entries = nil, nil
	return same && reflect.DeepEqual(a, b)
}

// sameRecord tells whether two records are the same, with nil slices the same as empty ones.
func sameRecord(a, b api.Record) bool {
	same := slices.Equal(a.Rows, b.Rows) && slices.Equal(a.Entries, b.Entries)
	a.Rows, a.Entries, b.Rows, b.Entries = nil, nil, nil, nil
	return same && reflect.DeepEqual(a, b)
}

// folds is the view of a chain that is valid.
func folds(t *testing.T, l []api.Record) inner.View {
	t.Helper()
	v, err := inner.Fold(l)
	if err != nil {
		t.Fatalf("Fold of %+v: %v", l, err)
	}
	return v
}

// foldFails asks that a chain has no view.
func foldFails(t *testing.T, name string, l []api.Record, want api.Code) {
	t.Helper()
	if v, err := inner.Fold(l); !sameView(v, inner.View{}) || code(err) != want {
		t.Errorf("%s: Fold is %+v, %v", name, v, err)
	}
}

// P8.1, Fold.

func TestFold(t *testing.T) {
	entry := func(key string, page int) api.Entry { return api.Entry{Key: key, Page: page} }
	b := base("b", "m", 3, "d f")
	for _, c := range []struct {
		name string
		l    []api.Record
		want inner.View
	}{
		{"a base", chain(b), inner.View{Low: "b", High: "m", Right: 3, Entries: list("b", "d f")}},
		{"an unbounded base", chain(open("b", "d f")), inner.View{Low: "b", Unbounded: true, Entries: list("b", "d f")}},
		{"a base of all keys", chain(open("", "d f")), inner.View{Unbounded: true, Entries: list("", "d f")}},
		{"a base of one entry", chain(base("b", "m", 3, "")), inner.View{Low: "b", High: "m", Right: 3, Entries: list("b", "")}},
		{"pages that no table has", chain(with(base("b", "m", -7, ""), entry("b", -1), entry("c", math.MaxInt))), inner.View{Low: "b", High: "m", Right: -7, Entries: []api.Entry{entry("b", -1), entry("c", math.MaxInt)}}},
		{"entries of one page", chain(with(b, entry("b", 4), entry("c", 4))), inner.View{Low: "b", High: "m", Right: 3, Entries: []api.Entry{entry("b", 4), entry("c", 4)}}},

		{"a put behind", chain(b, put("g", 9)), inner.View{Low: "b", High: "m", Right: 3, Entries: append(list("b", "d f"), entry("g", 9))}},
		{"a put between", chain(b, put("e", 9)), inner.View{Low: "b", High: "m", Right: 3, Entries: []api.Entry{entry("b", 1), entry("d", 2), entry("e", 9), entry("f", 3)}}},
		{"a put right after Low", chain(b, put("b\x00", 9)), inner.View{Low: "b", High: "m", Right: 3, Entries: []api.Entry{entry("b", 1), entry("b\x00", 9), entry("d", 2), entry("f", 3)}}},
		{"a put of a page that has an entry", chain(b, put("e", 2)), inner.View{Low: "b", High: "m", Right: 3, Entries: []api.Entry{entry("b", 1), entry("d", 2), entry("e", 2), entry("f", 3)}}},
		{"puts out of order", chain(open("", ""), put("c", 7), put("a", 8), put("b", 9)), inner.View{Unbounded: true, Entries: []api.Entry{entry("", 1), entry("a", 8), entry("b", 9), entry("c", 7)}}},

		{"a split", chain(b, split("d", 8)), inner.View{Low: "b", High: "d", Right: 8, Entries: list("b", "")}},
		{"a split at the last entry", chain(b, split("f", 8)), inner.View{Low: "b", High: "f", Right: 8, Entries: list("b", "d")}},
		{"a split of an unbounded page", chain(open("b", "d f"), split("f", 8)), inner.View{Low: "b", High: "f", Right: 8, Entries: list("b", "d")}},
		{"a split to a page that no table has", chain(b, split("f", -8)), inner.View{Low: "b", High: "f", Right: -8, Entries: list("b", "d")}},
		{"two splits", chain(b, split("f", 8), split("d", 9)), inner.View{Low: "b", High: "d", Right: 9, Entries: list("b", "")}},
		{"a split at what was put", chain(b, put("e", 9), split("e", 8)), inner.View{Low: "b", High: "e", Right: 8, Entries: list("b", "d")}},
		{"a put above a split", chain(b, split("f", 8), put("e", 3)), inner.View{Low: "b", High: "f", Right: 8, Entries: list("b", "d e")}},

		{"a hold", chain(b, hold("d", 2, 1)), inner.View{Low: "b", High: "m", Right: 3, Entries: list("b", "d f"), Held: true, Hold: api.Hold{Page: 2, Left: 1, Key: "d"}}},
		{"a hold of the last entry", chain(open("b", "d f"), hold("f", 3, 2)), inner.View{Low: "b", Unbounded: true, Entries: list("b", "d f"), Held: true, Hold: api.Hold{Page: 3, Left: 2, Key: "f"}}},
		{"a hold of what was put", chain(b, put("e", 9), hold("e", 9, 2)), inner.View{Low: "b", High: "m", Right: 3, Entries: []api.Entry{entry("b", 1), entry("d", 2), entry("e", 9), entry("f", 3)}, Held: true, Hold: api.Hold{Page: 9, Left: 2, Key: "e"}}},
		{"a hold above a split", chain(b, split("f", 8), hold("d", 2, 1)), inner.View{Low: "b", High: "f", Right: 8, Entries: list("b", "d"), Held: true, Hold: api.Hold{Page: 2, Left: 1, Key: "d"}}},
		{"a hold of a page that stands twice", chain(with(b, entry("b", 4), entry("c", 4), entry("d", 4)), hold("d", 4, 4)), inner.View{Low: "b", High: "m", Right: 3, Entries: []api.Entry{entry("b", 4), entry("c", 4), entry("d", 4)}, Held: true, Hold: api.Hold{Page: 4, Left: 4, Key: "d"}}},

		{"a drop", chain(b, hold("d", 2, 1), drop()), inner.View{Low: "b", High: "m", Right: 3, Entries: []api.Entry{entry("b", 1), entry("f", 3)}}},
		{"a drop of the last entry", chain(b, hold("f", 3, 2), drop()), inner.View{Low: "b", High: "m", Right: 3, Entries: list("b", "d")}},
		{"two drops", chain(b, hold("d", 2, 1), drop(), hold("f", 3, 1), drop()), inner.View{Low: "b", High: "m", Right: 3, Entries: list("b", "")}},
		{"a put above a drop", chain(b, hold("d", 2, 1), drop(), put("d", 7)), inner.View{Low: "b", High: "m", Right: 3, Entries: []api.Entry{entry("b", 1), entry("d", 7), entry("f", 3)}}},
		{"a split above a drop", chain(b, hold("d", 2, 1), drop(), split("f", 8)), inner.View{Low: "b", High: "f", Right: 8, Entries: list("b", "")}},
	} {
		if got, err := inner.Fold(c.l); !sameView(got, c.want) || err != nil {
			t.Errorf("%s: Fold is %+v, %v, not %+v", c.name, got, err, c.want)
		}
	}
}

// noisy is a record with more in the fields that its kind does not have.
func noisy(r api.Record) api.Record {
	r.Rows = []api.Row{{Key: "z"}, {Key: "a"}}
	r.Value = text(17)
	r.Next = api.Ref{Slot: 3, Gen: 4}
	if r.Kind != api.InnerBase {
		r.Low, r.High, r.Unbounded, r.Right = "z", "a", true, -9
		r.Entries = []api.Entry{{Key: "z", Page: 1}, {Key: "a", Page: 2}}
	}
	if r.Kind != api.InnerPut && r.Kind != api.InnerSplit {
		r.Key, r.Page = "f", -9
	}
	if r.Kind != api.InnerHold {
		r.Hold = api.Hold{Page: 3, Left: 2, Key: "f"}
	}
	return r
}

func TestFoldOnlyLooksAtWhatAKindHas(t *testing.T) {
	l := chain(base("b", "m", 3, "d f"), put("g", 7), put("h", 8), split("h", 9), hold("d", 2, 1), drop(), put("e", 6), hold("g", 7, 3))
	for from := range l {
		var loud []api.Record
		for _, r := range l[from:] {
			loud = append(loud, noisy(r))
		}
		if got, want := folds(t, loud), folds(t, l[from:]); !sameView(got, want) {
			t.Errorf("Fold is %+v, not %+v", got, want)
		}
	}
}

func TestFoldOfOtherKinds(t *testing.T) {
	for _, kind := range []int{0, -1, api.LeafBase, api.LeafPut, api.LeafDel, api.LeafSplit, api.LeafRemove, api.LeafMerge, 12, math.MinInt, math.MaxInt} {
		other := api.Record{Kind: kind, Key: "b", Page: 2, Unbounded: true, Entries: list("", "")}
		foldFails(t, "by itself", chain(other), api.ErrKind)
		foldFails(t, "at the bottom", chain(other, put("b", 2)), api.ErrKind)
		foldFails(t, "between", chain(open("", "a"), other, put("b", 2)), api.ErrKind)
		foldFails(t, "on top", chain(open("", "a"), put("b", 2), other), api.ErrKind)
		foldFails(t, "above a hold", chain(open("", "a"), hold("a", 2, 1), other), api.ErrKind)
		foldFails(t, "in a chain without a base", chain(put("b", 2), other), api.ErrKind)
		foldFails(t, "in a chain with two bases", chain(open("", "a"), open("", "a"), other), api.ErrKind)
		foldFails(t, "above entries that are not valid", chain(open("", "b a"), other), api.ErrKind)
		foldFails(t, "below a put out of the span", chain(base("", "b", 0, "a"), other, put("c", 2)), api.ErrKind)
	}
}

func TestFoldWithoutJustOneBaseAtTheBottom(t *testing.T) {
	foldFails(t, "nil", nil, api.ErrChain)
	foldFails(t, "no records", []api.Record{}, api.ErrChain)
	for _, r := range []api.Record{put("b", 2), split("a", 2), hold("a", 2, 1), drop()} {
		foldFails(t, "no base", chain(r), api.ErrChain)
		foldFails(t, "no base, with one more record", chain(r, put("c", 3)), api.ErrChain)
		foldFails(t, "a base on top", chain(r, open("", "a")), api.ErrChain)
		foldFails(t, "a base between", chain(r, open("", "a"), put("c", 3)), api.ErrChain)
		foldFails(t, "no base, but entries", chain(with(r, list("", "a")...)), api.ErrChain)
	}
	foldFails(t, "two bases", chain(open("", "a"), open("", "a")), api.ErrChain)
	foldFails(t, "two bases of one entry", chain(open("", ""), open("", "")), api.ErrChain)
	foldFails(t, "two bases with a put between", chain(open("", ""), put("a", 2), open("", "")), api.ErrChain)
	foldFails(t, "two bases below a put", chain(open("", ""), open("", ""), put("a", 2)), api.ErrChain)
	foldFails(t, "a base above a hold", chain(open("", "a"), hold("a", 2, 1), open("", "a")), api.ErrChain)
}

func TestFoldOfABase(t *testing.T) {
	for _, c := range []struct {
		name string
		r    api.Record
		good bool
	}{
		{"no entries", with(base("b", "m", 0, "")), false},
		{"no entries, unbounded", with(open("", "")), false},
		{"no entries in an empty span", api.Record{Kind: api.InnerBase}, false},
		{"a first entry before Low", with(base("b", "m", 0, ""), list("a", "c")...), false},
		{"a first entry before Low, and one at Low", with(base("b", "m", 0, ""), list("a", "b c")...), false},
		{"a first entry after Low", with(base("b", "m", 0, ""), list("c", "d")...), false},
		{"a first entry right after Low", with(base("b", "m", 0, ""), list("b\x00", "d")...), false},
		{"a first entry after an empty Low", with(open("", ""), list("a", "d")...), false},
		{"a first entry before Low of an unbounded base", with(open("b", ""), list("", "b")...), false},
		{"keys that fall", base("b", "m", 0, "d c"), false},
		{"keys that fall at the end", base("b", "m", 0, "c e d"), false},
		{"equal keys", base("b", "m", 0, "d d"), false},
		{"a second entry at Low", base("b", "m", 0, "b"), false},
		{"a second entry before Low", base("b", "m", 0, "a"), false},
		{"an entry right before High", base("b", "m", 0, "c lzz"), true},
		{"an entry at High", base("b", "m", 0, "c m"), false},
		{"an entry after High", base("b", "m", 0, "c n"), false},
		{"an empty span", base("b", "b", 0, ""), false},
		{"a span that is less than empty", base("m", "b", 0, ""), false},
		{"a span up to an empty High", base("", "", 0, ""), false},
		{"a span of one key", base("b", "b\x00", 0, ""), true},
		{"unbounded, with High", api.Record{Kind: api.InnerBase, High: "m", Unbounded: true, Entries: list("", "a")}, false},
		{"unbounded, with High, and one entry", api.Record{Kind: api.InnerBase, Low: "b", High: "m", Unbounded: true, Entries: list("b", "")}, false},
		{"an entry far behind", open("b", "c \xff\xff"), true},
		{"a key of 17 bytes", open("", text(16)+" "+text(17)), true},
		{"bytes, not runes", base("\x7f", "\xff", 0, "\xc3 \xfe"), true},
	} {
		if c.good {
			folds(t, chain(c.r))
			continue
		}
		foldFails(t, c.name, chain(c.r), api.ErrChain)
		foldFails(t, c.name+", with a put", chain(c.r, put("c5", 9)), api.ErrChain)
	}
}

func TestFoldOfAChange(t *testing.T) {
	b := base("b", "m", 5, "d f")
	o := open("b", "d f")
	for _, c := range []struct {
		name  string
		below api.Record
		r     api.Record
		good  bool
	}{
		{"a put at Low", b, put("b", 9), false},
		{"a put at an empty Low", open("", "d"), put("", 9), false},
		{"a put before Low", b, put("azz", 9), false},
		{"a put of an empty key", b, put("", 9), false},
		{"a put right after Low", b, put("b\x00", 9), true},
		{"a put at an entry", b, put("d", 9), false},
		{"a put of an entry as it is", b, put("d", 2), false},
		{"a put at the last entry", b, put("f", 9), false},
		{"a put right after an entry", b, put("d\x00", 9), true},
		{"a put right before High", b, put("lzz", 9), true},
		{"a put at High", b, put("m", 9), false},
		{"a put after High", b, put("n", 9), false},
		{"a put far behind in an unbounded page", o, put("\xff\xff", 9), true},
		{"a put before Low of an unbounded page", o, put("a", 9), false},
		{"a put of 17 bytes", o, put(text(17), 9), true},
		{"a put of a page that no table has", o, put("g", math.MinInt), true},

		{"a split at the second entry", b, split("d", 9), true},
		{"a split at the last entry", b, split("f", 9), true},
		{"a split at the first entry", b, split("b", 9), false},
		{"a split at an empty first entry", open("", "d"), split("", 9), false},
		{"a split at the only entry", base("b", "m", 5, ""), split("b", 9), false},
		{"a split between entries", b, split("e", 9), false},
		{"a split right after an entry", b, split("d\x00", 9), false},
		{"a split behind the entries", b, split("g", 9), false},
		{"a split before Low", b, split("a", 9), false},
		{"a split at an empty key", b, split("", 9), false},
		{"a split at High", b, split("m", 9), false},
		{"a split after High", b, split("n", 9), false},
		{"a split far behind in an unbounded page", o, split("\xff\xff", 9), false},

		{"a hold of the second entry", b, hold("d", 2, 1), true},
		{"a hold of the last entry", b, hold("f", 3, 2), true},
		{"a hold of the first entry", b, hold("b", 1, 1), false},
		{"a hold of the first entry, with page 0 as Left", b, hold("b", 1, 0), false},
		{"a hold of the only entry", base("b", "m", 5, ""), hold("b", 1, 0), false},
		{"a hold of another page", b, hold("d", 3, 1), false},
		{"a hold of the page of the entry before", b, hold("f", 2, 2), false},
		{"a hold with another Left", b, hold("d", 2, 3), false},
		{"a hold with the Left of the entry before", b, hold("f", 3, 1), false},
		{"a hold with Page and Left the other way round", b, hold("d", 1, 2), false},
		{"a hold at another key", b, hold("f", 2, 1), false},
		{"a hold between entries", b, hold("e", 2, 1), false},
		{"a hold right after an entry", b, hold("d\x00", 2, 1), false},
		{"a hold behind the entries", b, hold("g", 3, 2), false},
		{"a hold before Low", b, hold("a", 2, 1), false},
		{"a hold at High", b, hold("m", 5, 3), false},
		{"a hold that is zero", b, hold("", 0, 0), false},
		{"a hold of an entry that is zero", with(open("", ""), api.Entry{}), hold("", 0, 0), false},
		{"a hold with its key as that of the record", b, api.Record{Kind: api.InnerHold, Key: "d", Hold: api.Hold{Page: 2, Left: 1}}, false},

		{"a drop", b, drop(), false},
		{"a drop of an entry", b, api.Record{Kind: api.InnerDrop, Key: "d", Page: 2, Hold: api.Hold{Page: 2, Left: 1, Key: "d"}}, false},
	} {
		if c.good {
			folds(t, chain(c.below, c.r))
			continue
		}
		foldFails(t, c.name, chain(c.below, c.r), api.ErrChain)
		foldFails(t, c.name+", with a put", chain(c.below, c.r, put("c", 9)), api.ErrChain)
	}
}

func TestFoldAsksForTheEntriesAtThatPoint(t *testing.T) {
	b := base("b", "m", 5, "d f h")
	// There are fewer entries, and the span has become less.
	folds(t, chain(b, put("k", 9), split("h", 8)))
	folds(t, chain(b, split("h", 8), put("gzz", 9)))
	foldFails(t, "a put at the key of a split", chain(b, split("h", 8), put("h", 9)), api.ErrChain)
	foldFails(t, "a put behind a split", chain(b, split("h", 8), put("k", 9)), api.ErrChain)
	foldFails(t, "a put behind a split of an unbounded page", chain(open("", "h"), split("h", 8), put("k", 9)), api.ErrChain)
	foldFails(t, "a split above the same one", chain(b, split("h", 8), split("h", 8)), api.ErrChain)
	foldFails(t, "a split behind another one", chain(b, split("f", 8), split("h", 8)), api.ErrChain)
	foldFails(t, "a hold of what was split off", chain(b, split("f", 8), hold("f", 3, 2)), api.ErrChain)
	foldFails(t, "a split at what was dropped", chain(b, hold("f", 3, 2), drop(), split("f", 8)), api.ErrChain)
	foldFails(t, "a hold of what was dropped", chain(b, hold("f", 3, 2), drop(), hold("f", 3, 2)), api.ErrChain)
	foldFails(t, "a hold with what was dropped as Left", chain(b, hold("f", 3, 2), drop(), hold("h", 4, 3)), api.ErrChain)
	folds(t, chain(b, hold("f", 3, 2), drop(), hold("h", 4, 2)))
	// There are more entries.
	foldFails(t, "the same put once more", chain(b, put("k", 9), put("k", 9)), api.ErrChain)
	foldFails(t, "a hold with a Left that is no longer the one before", chain(b, put("e", 9), hold("f", 3, 2)), api.ErrChain)
	folds(t, chain(b, put("e", 9), hold("f", 3, 9)))
	foldFails(t, "a split below the put of its key", chain(b, split("k", 8), put("k", 9)), api.ErrChain)
	foldFails(t, "a hold below the put of its key", chain(b, hold("k", 9, 4), put("k", 9)), api.ErrChain)
}

func TestFoldAboveAHold(t *testing.T) {
	b := base("b", "m", 5, "d f")
	for _, r := range []api.Record{put("c", 9), put("g", 9), split("d", 8), split("f", 8), hold("d", 2, 1), hold("f", 3, 2), hold("f", 3, 1), b} {
		foldFails(t, "above a hold", chain(b, hold("d", 2, 1), r), api.ErrChain)
		foldFails(t, "above a hold, below a drop", chain(b, hold("d", 2, 1), r, drop()), api.ErrChain)
		foldFails(t, "above a hold after a drop", chain(b, hold("d", 2, 1), drop(), hold("f", 3, 1), r), api.ErrChain)
	}
	foldFails(t, "a second drop", chain(b, hold("d", 2, 1), drop(), drop()), api.ErrChain)
	foldFails(t, "a drop above a put", chain(b, hold("d", 2, 1), drop(), put("c", 9), drop()), api.ErrChain)
	foldFails(t, "a drop above a split", chain(b, split("f", 8), drop()), api.ErrChain)
	foldFails(t, "a drop above a base", chain(b, drop()), api.ErrChain)
}

// P8.1, Has, Child and Hold4.

func TestHas(t *testing.T) {
	v := folds(t, chain(base("b", "m", 5, "d"), put("f", 3), put("h", 4), split("h", 8)))
	for key, want := range map[string]bool{"b": true, "d": true, "f": true, "h": false, "": false, "a": false, "c": false, "d\x00": false, "e": false, "g": false, "m": false, "z": false, text(1 << 20): false} {
		if got := v.Has(key); got != want {
			t.Errorf("Has of %.20q is %v", key, got)
		}
	}
	if (inner.View{}).Has("") || (inner.View{Unbounded: true}).Has("a") {
		t.Error("a view without entries has one")
	}
	if all := folds(t, chain(open("", ""))); !all.Has("") || all.Has("a") {
		t.Error("Has of an empty key")
	}
	// Whether the key lies in the span does not matter.
	if v := (inner.View{Low: "d", High: "f", Entries: list("b", "d f h")}); !v.Has("b") || !v.Has("h") || v.Has("c") {
		t.Error("Has of a key out of the span")
	}
}

func TestHasOfAHeldPage(t *testing.T) {
	l := chain(base("b", "m", 5, "d"), hold("d", 2, 1))
	if !folds(t, l).Has("d") {
		t.Error("a hold has removed its entry")
	}
	if folds(t, append(chain(drop()), l...)).Has("d") {
		t.Error("a drop has not removed its entry")
	}
}

func TestChild(t *testing.T) {
	v := folds(t, chain(base("b", "m", 5, "d f")))
	for _, c := range []struct {
		key  string
		want api.Entry
		code api.Code
	}{
		{"b", api.Entry{Key: "b", Page: 1}, 0},
		{"b\x00", api.Entry{Key: "b", Page: 1}, 0},
		{"czz", api.Entry{Key: "b", Page: 1}, 0},
		{"d", api.Entry{Key: "d", Page: 2}, 0},
		{"e", api.Entry{Key: "d", Page: 2}, 0},
		{"ezz", api.Entry{Key: "d", Page: 2}, 0},
		{"f", api.Entry{Key: "f", Page: 3}, 0},
		{"lzz", api.Entry{Key: "f", Page: 3}, 0},
		{"g" + text(20), api.Entry{Key: "f", Page: 3}, 0}, // no key, but in the span
		{"", api.Entry{}, api.ErrRange},
		{"azz", api.Entry{}, api.ErrRange},
		{"m", api.Entry{}, api.ErrRange},
		{"n", api.Entry{}, api.ErrRange},
		{"\xff", api.Entry{}, api.ErrRange},
		{strings.Repeat("m", 1<<20), api.Entry{}, api.ErrRange},
	} {
		if got, err := v.Child(c.key); got != c.want || code(err) != c.code {
			t.Errorf("Child of %.20q is %+v, %v", c.key, got, err)
		}
	}
}

// Example 1.
func TestChildOfTwoEntries(t *testing.T) {
	v := folds(t, chain(with(open("", ""), api.Entry{Page: 1}, api.Entry{Key: "m", Page: 2})))
	for key, want := range map[string]int{"": 1, "a": 1, "lzz": 1, "m": 2, "z": 2, "\xff\xff": 2, text(17): 1} {
		if got, err := v.Child(key); got.Page != want || err != nil {
			t.Errorf("Child of %q is %+v, %v", key, got, err)
		}
	}
}

func TestChildWithoutAnEntryBefore(t *testing.T) {
	for _, c := range []struct {
		name string
		v    inner.View
		key  string
		want api.Entry
		code api.Code
	}{
		{"no entries", inner.View{Unbounded: true}, "a", api.Entry{}, api.ErrRange},
		{"no entries and no span", inner.View{}, "", api.Entry{}, api.ErrRange},
		{"in the span, but before the first entry", inner.View{Low: "b", High: "m", Entries: list("d", "f")}, "c", api.Entry{}, api.ErrRange},
		{"in the span, at the first entry", inner.View{Low: "b", High: "m", Entries: list("d", "f")}, "d", api.Entry{Key: "d", Page: 1}, 0},
		{"before the span, but at an entry", inner.View{Low: "b", High: "m", Entries: list("a", "f")}, "a", api.Entry{}, api.ErrRange},
		{"in the span, with an entry before it", inner.View{Low: "b", High: "m", Entries: list("a", "f")}, "c", api.Entry{Key: "a", Page: 1}, 0},
		{"after the span, but at an entry", inner.View{Low: "b", High: "m", Entries: list("b", "p")}, "p", api.Entry{}, api.ErrRange},
		{"in an unbounded span whose High is before", inner.View{Low: "b", High: "c", Unbounded: true, Entries: list("b", "p")}, "q", api.Entry{Key: "p", Page: 2}, 0},
		{"in a span that is empty", inner.View{Low: "b", High: "b", Entries: list("b", "p")}, "b", api.Entry{}, api.ErrRange},
	} {
		if got, err := c.v.Child(c.key); got != c.want || code(err) != c.code {
			t.Errorf("%s: Child is %+v, %v", c.name, got, err)
		}
	}
}

func TestHold4(t *testing.T) {
	v := folds(t, chain(base("b", "m", 5, "d f"), put("h", -4), put("j", 0)))
	for page, want := range map[int]api.Hold{
		2:  {Page: 2, Left: 1, Key: "d"},
		3:  {Page: 3, Left: 2, Key: "f"},
		-4: {Page: -4, Left: 3, Key: "h"},
		0:  {Page: 0, Left: -4, Key: "j"},
	} {
		got, err := v.Hold4(page)
		if got != want || err != nil {
			t.Errorf("Hold4 of %d is %+v, %v", page, got, err)
		}
		held := folds(t, chain(inner.Base(v), api.Record{Kind: api.InnerHold, Hold: got}))
		if !held.Held || held.Hold != want {
			t.Errorf("above the hold of %d the page is %+v", page, held)
		}
	}
	for _, page := range []int{1, 4, 5, -1, math.MinInt, math.MaxInt} { // the first one, the right one, none
		if got, err := v.Hold4(page); got != (api.Hold{}) || code(err) != api.ErrNone {
			t.Errorf("Hold4 of %d is %+v, %v", page, got, err)
		}
	}
}

func TestHold4OfPagesThatStandTwice(t *testing.T) {
	v := inner.View{Unbounded: true, Entries: []api.Entry{{Page: 4}, {Key: "b", Page: 2}, {Key: "d", Page: 4}, {Key: "f", Page: 2}, {Key: "h", Page: 4}}}
	for page, want := range map[int]api.Hold{2: {Page: 2, Left: 4, Key: "b"}, 4: {Page: 4, Left: 2, Key: "d"}} {
		if got, err := v.Hold4(page); got != want || err != nil {
			t.Errorf("Hold4 of %d is %+v, %v", page, got, err)
		}
	}
}

func TestHold4WithoutEntries(t *testing.T) {
	for _, v := range []inner.View{{}, {Unbounded: true, Entries: []api.Entry{{Page: 2}}}, {Entries: []api.Entry{{}}}} {
		for _, page := range []int{0, 2} {
			if got, err := v.Hold4(page); got != (api.Hold{}) || code(err) != api.ErrNone {
				t.Errorf("Hold4 of %d in %+v is %+v, %v", page, v, got, err)
			}
		}
	}
}

// P8.2, Base.

func TestBase(t *testing.T) {
	for _, v := range []inner.View{
		{},
		{Unbounded: true},
		{Low: "b", High: "m", Right: 3, Entries: list("b", "c")},
		{Low: "b", Unbounded: true, Right: -1, Entries: list("b", "")},
		{Low: "b", High: "m", Right: 3, Entries: list("b", "c"), Held: true, Hold: api.Hold{Page: 2, Left: 1, Key: "c"}},
		{Low: "b", High: "m", Right: 3, Entries: list("b", "c"), Hold: api.Hold{Page: 2, Left: 1, Key: "c"}},
		{Low: "m", High: "b", Unbounded: true, Right: math.MaxInt, Entries: list("c", "b b")}, // as it is, valid or not
	} {
		want := api.Record{Kind: api.InnerBase, Low: v.Low, High: v.High, Unbounded: v.Unbounded, Right: v.Right, Entries: v.Entries}
		if got := inner.Base(v); !sameRecord(got, want) {
			t.Errorf("Base of %+v is %+v", v, got)
		}
	}
}

// P8.2, Split and Grow.

// views are views of pages that can be halved: with even and odd numbers of entries, bounded or not.
func views() []inner.View {
	var all []inner.View
	for _, keys := range []string{"c", "c d", "c d e", "c d e f", "bapple bapricot", "b\x00 b\x01 b\xff"} {
		all = append(all, inner.View{Unbounded: true, Entries: list("", keys)}, inner.View{Low: "b", High: "m", Right: 3, Entries: list("b", keys)})
	}
	return all
}

// halved are the bases of the halves of a view, and the key between.
func halved(v inner.View, page int) (api.Record, api.Record, string) {
	n := len(v.Entries) / 2
	key := v.Entries[n].Key
	left := api.Record{Kind: api.InnerBase, Low: v.Low, High: key, Right: page, Entries: v.Entries[:n]}
	right := api.Record{Kind: api.InnerBase, Low: key, High: v.High, Unbounded: v.Unbounded, Right: v.Right, Entries: v.Entries[n:]}
	return left, right, key
}

func TestSplit(t *testing.T) {
	for _, v := range views() {
		for _, page := range []int{0, 3, 8, -1, math.MinInt, math.MaxInt} {
			_, right, key := halved(v, page)
			delta, got, err := inner.Split(v, page)
			if !sameRecord(delta, split(key, page)) || !sameRecord(got, right) || err != nil {
				t.Errorf("Split of %+v is %+v, %+v, %v", v, delta, got, err)
			}
		}
	}
}

func TestSplitOfThreeEntries(t *testing.T) {
	b := open("", "g p")
	delta, right, err := inner.Split(folds(t, chain(b)), 7)
	if !sameRecord(delta, split("g", 7)) || err != nil {
		t.Fatalf("Split is %+v, %v", delta, err)
	}
	if got := folds(t, chain(b, delta)); !sameView(got, inner.View{High: "g", Right: 7, Entries: list("", "")}) {
		t.Errorf("Split leaves %+v", got)
	}
	if want := (inner.View{Low: "g", Unbounded: true, Entries: []api.Entry{{Key: "g", Page: 2}, {Key: "p", Page: 3}}}); !sameView(folds(t, chain(right)), want) {
		t.Errorf("the right half is %+v", right)
	}
}

func TestGrow(t *testing.T) {
	for _, v := range views() {
		for _, p := range [][2]int{{1, 2}, {2, 1}, {7, 7}, {0, -1}, {math.MaxInt, math.MinInt}} {
			left, right, key := halved(v, p[1])
			top := api.Record{Kind: api.InnerBase, Low: v.Low, High: v.High, Unbounded: v.Unbounded, Right: v.Right}
			top.Entries = []api.Entry{{Key: v.Low, Page: p[0]}, {Key: key, Page: p[1]}}
			gotLeft, gotRight, gotTop, err := inner.Grow(v, p[0], p[1])
			if !sameRecord(gotLeft, left) || !sameRecord(gotRight, right) || !sameRecord(gotTop, top) || err != nil {
				t.Errorf("Grow of %+v is %+v, %+v, %+v, %v", v, gotLeft, gotRight, gotTop, err)
			}
			folds(t, chain(gotTop))
		}
	}
}

// halfFails asks that a view can be neither split nor grown.
func halfFails(t *testing.T, v inner.View, want api.Code) {
	t.Helper()
	var none api.Record
	if a, b, err := inner.Split(v, 5); !sameRecord(a, none) || !sameRecord(b, none) || code(err) != want {
		t.Errorf("Split of %+v is %+v, %+v, %v", v, a, b, err)
	}
	if a, b, c, err := inner.Grow(v, 5, 6); !sameRecord(a, none) || !sameRecord(b, none) || !sameRecord(c, none) || code(err) != want {
		t.Errorf("Grow of %+v is %+v, %+v, %+v, %v", v, a, b, c, err)
	}
}

func TestWhatCanNotBeHalved(t *testing.T) {
	halfFails(t, inner.View{}, api.ErrRange)
	halfFails(t, inner.View{Unbounded: true, Entries: list("", "")}, api.ErrRange)
	halfFails(t, inner.View{Held: true}, api.ErrState)
	halfFails(t, inner.View{Unbounded: true, Entries: list("", ""), Held: true}, api.ErrState)
	halfFails(t, inner.View{Unbounded: true, Entries: list("", "a"), Held: true}, api.ErrState)
	halfFails(t, folds(t, chain(open("", "a b"), hold("a", 2, 1))), api.ErrState)
}

func TestHalvesOfAHoldThatIsNotHeld(t *testing.T) {
	v := inner.View{Unbounded: true, Entries: list("", "c"), Hold: api.Hold{Page: 2, Left: 1, Key: "c"}}
	_, right, err := inner.Split(v, 5)
	if _, want, _ := halved(v, 5); !sameRecord(right, want) || err != nil {
		t.Errorf("Split is %+v, %v", right, err)
	}
	if _, _, top, err := inner.Grow(v, 5, 6); top.Hold != (api.Hold{}) || err != nil {
		t.Errorf("Grow is %+v, %v", top, err)
	}
}

func TestHalvesOfEntriesThatAreNotValid(t *testing.T) {
	// They are halved as they are.
	for _, v := range []inner.View{
		{Low: "b", High: "m", Right: 3, Entries: list("z", "y x w")},
		{Low: "b", High: "m", Right: 3, Entries: list("b", "b b")},
		{Low: "m", High: "b", Unbounded: true, Entries: list("", "a")},
	} {
		left, right, key := halved(v, 8)
		delta, got, err := inner.Split(v, 8)
		if !sameRecord(delta, split(key, 8)) || !sameRecord(got, right) || err != nil {
			t.Errorf("Split of %+v is %+v, %+v, %v", v, delta, got, err)
		}
		first, second, top, err := inner.Grow(v, 7, 8)
		if want := []api.Entry{{Key: v.Low, Page: 7}, {Key: key, Page: 8}}; !sameRecord(first, left) || !sameRecord(second, right) || !slices.Equal(top.Entries, want) || err != nil {
			t.Errorf("Grow of %+v is %+v, %+v, %+v, %v", v, first, second, top, err)
		}
	}
}

// All short chains, against a model that keeps its pages in a map.

type model struct {
	low, high string
	unbounded bool
	right     int
	pages     map[string]int
	hold      *api.Hold
}

// within tells whether a key is from low on, up to high.
func within(low, high string, unbounded bool, key string) bool {
	return low <= key && (unbounded || key < high)
}

// start is the model of a base, and whether it is valid.
func start(r api.Record) (*model, bool) {
	m := &model{low: r.Low, high: r.High, unbounded: r.Unbounded, right: r.Right, pages: map[string]int{}}
	good := r.Kind == api.InnerBase && len(r.Entries) > 0 && !(r.Unbounded && r.High != "")
	for i, e := range r.Entries {
		first := e.Key == r.Low
		good = good && first == (i == 0) && within(r.Low, r.High, r.Unbounded, e.Key)
		good = good && (i == 0 || r.Entries[i-1].Key < e.Key)
		m.pages[e.Key] = e.Page
	}
	return m, good
}

// before is the last key before another one.
func (m *model) before(key string) string {
	last := m.low
	for k := range m.pages {
		if last < k && k < key {
			last = k
		}
	}
	return last
}

// change does what a record above a base does, and tells whether it may.
func (m *model) change(r api.Record) bool {
	if m.hold != nil {
		if r.Kind != api.InnerDrop {
			return false
		}
		delete(m.pages, m.hold.Key)
		m.hold = nil
		return true
	}
	_, there := m.pages[r.Key]
	switch r.Kind {
	case api.InnerPut:
		m.pages[r.Key] = r.Page
		return !there && within(m.low, m.high, m.unbounded, r.Key)
	case api.InnerSplit:
		for k := range m.pages {
			if k >= r.Key {
				delete(m.pages, k)
			}
		}
		m.high, m.unbounded, m.right = r.Key, false, r.Page
		return there && r.Key != m.low
	case api.InnerHold:
		page, there := m.pages[r.Hold.Key]
		m.hold = &r.Hold
		return there && r.Hold.Key != m.low && page == r.Hold.Page && m.pages[m.before(r.Hold.Key)] == r.Hold.Left
	}
	return false
}

// view is what a model is.
func (m *model) view() inner.View {
	v := inner.View{Low: m.low, High: m.high, Unbounded: m.unbounded, Right: m.right}
	if m.hold != nil {
		v.Held, v.Hold = true, *m.hold
	}
	for k, page := range m.pages {
		v.Entries = append(v.Entries, api.Entry{Key: k, Page: page})
	}
	slices.SortFunc(v.Entries, func(a, b api.Entry) int { return strings.Compare(a.Key, b.Key) })
	return v
}

// modelled is the view of a chain by the model, if it is valid.
func modelled(l []api.Record) (inner.View, bool) {
	m, good := start(l[len(l)-1])
	for _, r := range slices.Backward(l[:len(l)-1]) {
		if !good {
			return inner.View{}, false
		}
		good = m.change(r)
	}
	if !good {
		return inner.View{}, false
	}
	return m.view(), true
}

// changes are records that come above a base.
func changes() []api.Record {
	return []api.Record{
		put("", 8), put("a", 7), put("b", 8), put("c", 9), put("d", 2), put("f", 3),
		split("", 5), split("a", 5), split("c", 6), split("d", 7),
		hold("c", 2, 1), hold("c", 9, 7), hold("d", 3, 2), hold("d", 3, 1), hold("d", 2, 9), hold("b", 8, 1), hold("a", 1, 1),
		drop(),
	}
}

// everyChain calls with each chain of a base and up to n changes.
func everyChain(n int, call func(l []api.Record)) {
	var grow func(l []api.Record, n int)
	grow = func(l []api.Record, n int) {
		call(l)
		if n == 0 {
			return
		}
		for _, r := range changes() {
			grow(append([]api.Record{r}, l...), n-1)
		}
	}
	for _, b := range []api.Record{open("", ""), open("", "c d"), open("a", "c d"), base("a", "f", 4, "c d"), base("", "d", 4, "c"), base("c", "c", 5, ""), base("c", "f", 6, "b"), put("c", 9)} {
		grow([]api.Record{b}, n)
	}
}

// keys are keys to ask for.
func keys() []string {
	return []string{"", "a", "az", "b", "c", "c\x00", "d", "e", "f", "g"}
}

func TestEveryShortChain(t *testing.T) {
	valid := 0
	everyChain(4, func(l []api.Record) {
		want, good := modelled(l)
		got, err := inner.Fold(l)
		if good != (err == nil) || !good && code(err) != api.ErrChain || !sameView(got, want) {
			t.Fatalf("Fold of %+v is %+v, %v, not %+v, %v", l, got, err, want, good)
		}
		if !good {
			return
		}
		valid++
		checkChildren(t, got)
		checkHolds(t, got)
		checkBase(t, got)
		checkPut(t, l, got)
		checkDrop(t, l, got)
	})
	if valid < 1000 {
		t.Errorf("only %d chains are valid", valid)
	}
}

// P8.3: each key of the span has exactly one child.
func checkChildren(t *testing.T, v inner.View) {
	t.Helper()
	for _, key := range keys() {
		var want api.Entry
		wrong, has := api.ErrRange, false
		for i, e := range v.Entries {
			last := i == len(v.Entries)-1
			if within(v.Low, v.High, v.Unbounded, key) && e.Key <= key && (last || key < v.Entries[i+1].Key) {
				want, wrong = e, 0
			}
			has = has || e.Key == key
		}
		if got, err := v.Child(key); got != want || code(err) != wrong {
			t.Fatalf("Child of %q in %+v is %+v, %v", key, v, got, err)
		}
		if v.Has(key) != has {
			t.Fatalf("Has of %q in %+v is %v", key, v, !has)
		}
	}
}

// checkHolds asks for the hold of each page.
func checkHolds(t *testing.T, v inner.View) {
	t.Helper()
	for page := range 10 {
		var want api.Hold
		wrong := api.ErrNone
		for i := len(v.Entries) - 1; i > 0; i-- {
			if v.Entries[i].Page == page {
				want, wrong = api.Hold{Page: page, Left: v.Entries[i-1].Page, Key: v.Entries[i].Key}, 0
			}
		}
		if got, err := v.Hold4(page); got != want || code(err) != wrong {
			t.Fatalf("Hold4 of %d in %+v is %+v, %v", page, v, got, err)
		}
	}
}

// checkBase asks that the view of a view's base is that view, without a hold.
func checkBase(t *testing.T, v inner.View) {
	t.Helper()
	got := folds(t, chain(inner.Base(v)))
	v.Held, v.Hold = false, api.Hold{}
	if !sameView(got, v) {
		t.Fatalf("the view of the base of %+v is %+v", v, got)
	}
}

// P8.3: an entry that was put is found, and the other entries stay.
func checkPut(t *testing.T, l []api.Record, v inner.View) {
	t.Helper()
	for _, key := range keys() {
		if v.Held || v.Has(key) || !within(v.Low, v.High, v.Unbounded, key) {
			continue
		}
		got := folds(t, append([]api.Record{put(key, 77)}, l...))
		if e, err := got.Child(key); e != (api.Entry{Key: key, Page: 77}) || err != nil || !got.Has(key) {
			t.Fatalf("after a put of %q in %+v its child is %+v, %v", key, v, e, err)
		}
		for _, e := range v.Entries {
			if child, err := got.Child(e.Key); child != e || err != nil {
				t.Fatalf("after a put of %q in %+v the child of %q is %+v, %v", key, v, e.Key, child, err)
			}
		}
	}
}

// P8.5: after a hold and its drop there is one entry fewer, and the keys of the removed page have the left page as their child.
func checkDrop(t *testing.T, l []api.Record, v inner.View) {
	t.Helper()
	for _, e := range v.Entries {
		h, err := v.Hold4(e.Page)
		if v.Held || err != nil {
			continue
		}
		held := append([]api.Record{{Kind: api.InnerHold, Hold: h}}, l...)
		if got := folds(t, held); !slices.Equal(got.Entries, v.Entries) {
			t.Fatalf("the hold %+v in %+v leaves %+v", h, v, got.Entries)
		}
		got := folds(t, append([]api.Record{drop()}, held...))
		if len(got.Entries) != len(v.Entries)-1 || got.Held || got.Has(h.Key) {
			t.Fatalf("after the hold %+v in %+v there is %+v", h, v, got)
		}
		for _, key := range keys() {
			want, wrong := v.Child(key)
			if want.Key == h.Key {
				want.Page = h.Left
			}
			if child, err := got.Child(key); child.Page != want.Page || code(err) != code(wrong) {
				t.Fatalf("after the hold %+v in %+v the child of %q is %+v, %v", h, v, key, child, err)
			}
		}
	}
}

// P8.4.

// subsets are an entry of low, and all choices of keys.
func subsets(low, keys string) [][]api.Entry {
	all := [][]api.Entry{list(low, "")}
	for i, k := range strings.Fields(keys) {
		for _, l := range all {
			all = append(all, append(slices.Clone(l), api.Entry{Key: k, Page: i + 2}))
		}
	}
	return all
}

func TestTheHalvesHaveAllEntries(t *testing.T) {
	for _, l := range slices.Concat(subsets("", "b ba bab bb c ca"), subsets("b", "b\x00 ba bab bb c ca")) {
		low := l[0].Key
		for _, whole := range []inner.View{{Low: low, Unbounded: true, Entries: l}, {Low: low, High: "m", Right: 3, Entries: l}} {
			delta, rightBase, err := inner.Split(whole, 8)
			if len(l) < 2 {
				halfFails(t, whole, api.ErrRange)
				continue
			}
			if err != nil {
				t.Fatalf("Split of %+v: %v", whole, err)
			}
			left := folds(t, chain(inner.Base(whole), delta))
			right := folds(t, chain(rightBase))
			checkParts(t, whole, left, right)
			checkGrown(t, whole, left, right)
		}
	}
}

// checkParts asks that two pages have the entries of one, each its part.
func checkParts(t *testing.T, whole, left, right inner.View) {
	t.Helper()
	if !slices.Equal(slices.Concat(left.Entries, right.Entries), whole.Entries) || len(left.Entries) != len(whole.Entries)/2 {
		t.Fatalf("the parts of %+v are %+v and %+v", whole, left, right)
	}
	if left.Low != whole.Low || left.High != right.Low || left.Unbounded || left.Right != 8 || left.Held {
		t.Fatalf("the left part of %+v is %+v", whole, left)
	}
	if right.High != whole.High || right.Unbounded != whole.Unbounded || right.Right != whole.Right || right.Held {
		t.Fatalf("the right part of %+v is %+v", whole, right)
	}
	for _, key := range keys() {
		want, wrong := whole.Child(key)
		part := left
		if key >= right.Low {
			part = right
		}
		if got, err := part.Child(key); got != want || code(err) != code(wrong) {
			t.Fatalf("Child of %q in the parts of %+v is %+v, %v", key, whole, got, err)
		}
	}
}

// checkGrown asks that a page that grows has the same two pages below.
func checkGrown(t *testing.T, whole, left, right inner.View) {
	t.Helper()
	leftBase, rightBase, top, err := inner.Grow(whole, 7, 8)
	if err != nil {
		t.Fatalf("Grow of %+v: %v", whole, err)
	}
	if !sameView(folds(t, chain(leftBase)), left) || !sameView(folds(t, chain(rightBase)), right) {
		t.Fatalf("Grow of %+v is %+v and %+v", whole, leftBase, rightBase)
	}
	whole.Entries = []api.Entry{{Key: left.Low, Page: 7}, {Key: right.Low, Page: 8}}
	if got := folds(t, chain(top)); !sameView(got, whole) {
		t.Fatalf("Grow has the page %+v above, not %+v", got, whole)
	}
}

// What is handed in stays as it was, and what is handed out is new memory.

// roomy is entries with spare capacity that others may have something in.
func roomy(l []api.Entry) []api.Entry {
	room := append(slices.Clone(l), api.Entry{Key: "spare", Page: 1}, api.Entry{Key: "spare", Page: 2})
	return room[:len(l)]
}

// snapshot is entries with what is in their spare capacity, each list in memory of its own.
func snapshot(lists [][]api.Entry) [][]api.Entry {
	var s [][]api.Entry
	for _, l := range lists {
		s = append(s, slices.Clone(l[:cap(l)]))
	}
	return s
}

// checkMemory writes over each list of results in turn, and asks that nothing else changes.
func checkMemory(t *testing.T, name string, given [][]api.Entry, call func() [][]api.Entry) {
	t.Helper()
	was := snapshot(given)
	lists := append(slices.Clone(given), call()...)
	if !slices.EqualFunc(snapshot(given), was, slices.Equal) {
		t.Errorf("%s changed what was handed in", name)
	}
	for i := len(given); i < len(lists); i++ {
		want := snapshot(lists)
		whole := lists[i][:cap(lists[i])]
		for j, e := range whole {
			whole[j] = api.Entry{Key: "over" + e.Key, Page: -e.Page - 1}
		}
		got := snapshot(lists)
		got[i] = want[i]
		if !slices.EqualFunc(got, want, slices.Equal) {
			t.Errorf("%s: result %d shares memory", name, i-len(given))
		}
	}
}

func TestMemoryOfFold(t *testing.T) {
	b := base("b", "m", 3, "d f h")
	for _, l := range [][]api.Record{
		chain(b),
		chain(b, put("k", 9)),
		chain(b, put("c", 9)),
		chain(b, split("d", 8)),
		chain(b, split("h", 8)),
		chain(b, hold("d", 2, 1)),
		chain(b, hold("h", 4, 3), drop()),
		chain(b, hold("d", 2, 1), drop()),
		chain(b, put("k", 9), split("h", 8), hold("d", 2, 1), drop(), put("e", 5), hold("e", 5, 1)),
	} {
		var given [][]api.Entry
		for i, r := range l {
			l[i].Entries = roomy(r.Entries)
			given = append(given, l[i].Entries)
		}
		was := slices.Clone(l)
		checkMemory(t, "Fold", given, func() [][]api.Entry {
			return [][]api.Entry{folds(t, l).Entries, folds(t, l).Entries}
		})
		if !reflect.DeepEqual(l, was) {
			t.Errorf("Fold changed its chain to %+v", l)
		}
	}
}

func TestMemoryOfRecords(t *testing.T) {
	for _, v := range views() {
		v.Entries = roomy(v.Entries)
		held := v
		held.Held = true
		checkMemory(t, "a record", [][]api.Entry{v.Entries}, func() [][]api.Entry {
			v.Has("c")
			v.Child("c")
			v.Hold4(2)
			_, half, _ := inner.Split(v, 8)
			left, right, top, _ := inner.Grow(v, 7, 8)
			return [][]api.Entry{inner.Base(v).Entries, inner.Base(v).Entries, inner.Base(held).Entries, half.Entries, left.Entries, right.Entries, top.Entries}
		})
	}
}

// Long chains and many entries.

func TestALongChain(t *testing.T) {
	const n = 500
	key := func(i int) string { return "k" + string([]byte{byte(i >> 8), byte(i)}) }
	l := []api.Record{open("", "")}
	for i := range n {
		l = append(l, put(key(i*7%n), i*7%n+100))
	}
	for i := range n / 2 {
		left := 2*i + 99 // the page of the key before, which is odd
		if i == 0 {
			left = 1
		}
		l = append(l, hold(key(2*i), 2*i+100, left), drop())
	}
	v := folds(t, chain(l...))
	if len(v.Entries) != n/2+1 {
		t.Fatalf("%d entries", len(v.Entries))
	}
	for i, e := range v.Entries[1:] {
		if want := (api.Entry{Key: key(2*i + 1), Page: 2*i + 101}); e != want {
			t.Fatalf("entry %d is %+v", i+1, e)
		}
		if child, err := v.Child(key(2*i + 2)); child != e || err != nil { // a key that was dropped, or behind the last one
			t.Fatalf("Child of %q is %+v, %v", key(2*i+2), child, err)
		}
	}
	delta, right, err := inner.Split(v, 8)
	if delta.Key != right.Entries[0].Key || len(right.Entries) != n/4+1 || err != nil {
		t.Errorf("Split is %+v, %d entries, %v", delta, len(right.Entries), err)
	}
}
