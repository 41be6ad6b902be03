package rows_test

import (
	"errors"
	"math"
	"slices"
	"strings"
	"testing"

	"rowlock/api"
	"rowlock/bkey"
	"rowlock/rows"
)

// list is rows of keys, each with its place in the text as its value, so that rows of equal keys are told apart.
func list(keys string) []api.Row {
	var l []api.Row
	for i, k := range strings.Fields(keys) {
		l = append(l, api.Row{Key: k, Value: string(rune('0' + i))})
	}
	return l
}

// told is rows as a text: keys with their values.
func told(l []api.Row) string {
	var s []string
	for _, r := range l {
		s = append(s, r.Key+"="+r.Value)
	}
	return strings.Join(s, " ")
}

func text(n int) string { return strings.Repeat("k", n) }

// subsets are all valid lists of keys; each row's value is its key, doubled.
func subsets(keys string) [][]api.Row {
	all := [][]api.Row{nil}
	for _, k := range strings.Fields(keys) {
		for _, l := range all {
			all = append(all, append(slices.Clone(l), api.Row{Key: k, Value: k + k}))
		}
	}
	return all
}

// few are keys one of which is the beginning of others, and those that lie around them.
const few = "a ab abc ac b ba"

// asked are the few, and keys that lie between them, ahead of all and behind all.
func asked() []string {
	return append(strings.Fields(few), "", "\x00", "a\x00", "aa", "abb", "abd", "b\x00", "bb", "\xff", text(16), text(17))
}

// P3.1, Right.

func TestRight(t *testing.T) {
	for _, c := range []struct {
		name string
		l    []api.Row
		want bool
	}{
		{"nil", nil, true},
		{"no rows", []api.Row{}, true},
		{"one row", list("a"), true},
		{"rising", list("a ab b"), true},
		{"rising by one byte 0", []api.Row{{Key: "a"}, {Key: "a\x00"}}, true},
		{"bytes, not runes", []api.Row{{Key: "\x7f"}, {Key: "\xc3"}, {Key: "é"}, {Key: "\xff"}}, true},
		{"upper case comes first", list("B a"), true},
		{"falling", list("b a"), false},
		{"upper case comes last", list("a B"), false},
		{"a beginning comes last", list("ab a"), false},
		{"equal", list("a a"), false},
		{"the same row twice", []api.Row{{Key: "a", Value: "1"}, {Key: "a", Value: "1"}}, false},
		{"falling at the end", list("a b c d c"), false},
		{"equal at the end", list("a b c d d"), false},
		{"falling at the begin", list("b a c d"), false},
		{"an empty key", []api.Row{{Key: "", Value: "1"}}, false},
		{"an empty key ahead", []api.Row{{Key: ""}, {Key: "a"}}, false},
		{"a key of 16 bytes", []api.Row{{Key: text(16)}}, true},
		{"a key of 17 bytes", []api.Row{{Key: text(17)}}, false},
		{"a key of 17 bytes at the end", []api.Row{{Key: "a"}, {Key: text(17)}}, false},
		{"an empty value", []api.Row{{Key: "a"}}, true},
		{"a value of 16 bytes", []api.Row{{Key: "a", Value: text(16)}}, true},
		{"a value of 17 bytes", []api.Row{{Key: "a", Value: text(17)}}, false},
		{"a value of 9 runes, but 18 bytes", []api.Row{{Key: "a", Value: strings.Repeat("é", 9)}}, false},
		{"a value of 17 bytes at the end", []api.Row{{Key: "a"}, {Key: "b", Value: text(17)}}, false},
		{"values need not rise", []api.Row{{Key: "a", Value: "2"}, {Key: "b", Value: "1"}, {Key: "c", Value: "1"}}, true},
	} {
		if got := rows.Right(c.l); got != c.want {
			t.Errorf("%s: Right is %v", c.name, got)
		}
	}
}

func TestRightOfMoreRowsThanAPageHas(t *testing.T) {
	l := many(4 * api.MaxRows)
	if !rows.Right(l) {
		t.Error("rows have no greatest number, but Right is false")
	}
	l[len(l)-1] = l[0]
	if rows.Right(l) {
		t.Error("the last of many rows is out of order, but Right is true")
	}
}

// many is n rows whose keys have three bytes.
func many(n int) []api.Row {
	var l []api.Row
	for i := range n {
		l = append(l, api.Row{Key: string([]byte{byte(i >> 16), byte(i >> 8), byte(i)}), Value: "v"})
	}
	return l
}

// P3.1, Find.

func TestFind(t *testing.T) {
	for _, c := range []struct {
		keys, key string
		index     int
		there     bool
	}{
		{"", "a", 0, false},
		{"", "", 0, false},
		{"b", "a", 0, false},
		{"b", "b", 0, true},
		{"b", "c", 1, false},
		{"b", "b\x00", 1, false},
		{"a c e", "", 0, false},
		{"a c e", "\x00", 0, false},
		{"a c e", "a", 0, true},
		{"a c e", "b", 1, false},
		{"a c e", "c", 1, true},
		{"a c e", "d", 2, false},
		{"a c e", "e", 2, true},
		{"a c e", "f", 3, false},
		{"a ab b", "aa", 1, false},
		{"a ab b", "abc", 2, false},
		{"a c e", text(17), 3, false},
		{"a c e", strings.Repeat("b", 1<<20), 1, false},
		{"A a", "Z", 1, false},
		// Lists that are not valid: the first row that is not before the key.
		{"c a", "a", 0, false},
		{"c a", "b", 0, false},
		{"c a", "d", 2, false},
		{"a c b", "b", 1, false},
		{"a c b d", "bb", 1, false},
		{"b a c", "c", 2, true},
		{"a a a", "a", 0, true},
		{"a b b c", "b", 1, true},
		{"e d c b a", "a", 0, false},
	} {
		index, there := rows.Find(list(c.keys), c.key)
		if index != c.index || there != c.there {
			t.Errorf("Find(%q, %.20q) is %d, %v", c.keys, c.key, index, there)
		}
	}
}

func TestFindWhatIsNoKey(t *testing.T) {
	l := []api.Row{{Key: "", Value: "1"}, {Key: text(17), Value: "2"}}
	if i, there := rows.Find(l, ""); i != 0 || !there {
		t.Errorf("Find of an empty key that is there is %d, %v", i, there)
	}
	if i, there := rows.Find(l, text(17)); i != 1 || !there {
		t.Errorf("Find of a key of 17 bytes that is there is %d, %v", i, there)
	}
}

// P3.1, Put.

func TestPut(t *testing.T) {
	for _, c := range []struct {
		keys, key string
		want      string
		was       bool
	}{
		{"", "a", "a=new", false},
		{"b", "a", "a=new b=0", false},
		{"b", "b", "b=new", true},
		{"b", "c", "b=0 c=new", false},
		{"a c e", "A", "A=new a=0 c=1 e=2", false},
		{"a c e", "a", "a=new c=1 e=2", true},
		{"a c e", "b", "a=0 b=new c=1 e=2", false},
		{"a c e", "c", "a=0 c=new e=2", true},
		{"a c e", "e", "a=0 c=1 e=new", true},
		{"a c e", "f", "a=0 c=1 e=2 f=new", false},
		{"a ab b", "aa", "a=0 aa=new ab=1 b=2", false},
		// Lists that are not valid.
		{"c a", "b", "b=new c=0 a=1", false},
		{"c a", "a", "a=new c=0 a=1", false},
		{"c a", "d", "c=0 a=1 d=new", false},
		{"a a b", "a", "a=new a=1 b=2", true},
		{"b a c", "c", "b=0 a=1 c=new", true},
	} {
		got, was, err := rows.Put(list(c.keys), api.Row{Key: c.key, Value: "new"})
		if told(got) != c.want || was != c.was || err != nil {
			t.Errorf("Put of %q in %q is %q, %v, %v", c.key, c.keys, told(got), was, err)
		}
	}
}

func TestPutAtTheLimits(t *testing.T) {
	for _, r := range []api.Row{
		{Key: "b"},
		{Key: "b", Value: text(16)},
		{Key: text(16)},
		{Key: text(16), Value: text(16)},
		{Key: "\xff\xff", Value: "\x00"},
	} {
		got, was, err := rows.Put(list("a"), r)
		if len(got) != 2 || got[1] != r || was || err != nil {
			t.Errorf("Put of %q is %q, %v, %v", r, told(got), was, err)
		}
	}
}

func TestPutReplacesAnEqualRow(t *testing.T) {
	got, was, err := rows.Put(list("a"), api.Row{Key: "a", Value: "0"})
	if told(got) != "a=0" || !was || err != nil {
		t.Errorf("Put of a row that is there is %q, %v, %v", told(got), was, err)
	}
}

func TestPutOfNoValidRow(t *testing.T) {
	for _, l := range [][]api.Row{nil, list("a c e"), list("e c a"), {{Key: text(17)}}, {{Key: ""}}, {{Key: "a", Value: text(17)}}} {
		for _, r := range []api.Row{
			{},
			{Key: "", Value: "1"},
			{Key: text(17)},
			{Key: "a", Value: text(17)},
			{Key: "f", Value: text(1 << 20)},
			{Key: text(1 << 20), Value: "1"},
			{Key: "a", Value: strings.Repeat("é", 9)},
		} {
			got, was, err := rows.Put(l, r)
			if len(got) != 0 || was || !errors.Is(err, api.ErrArg) {
				t.Errorf("Put of %.40q in %.60q is %q, %v, %v", r, l, told(got), was, err)
			}
		}
	}
}

// P3.1, Drop.

func TestDrop(t *testing.T) {
	for _, c := range []struct {
		keys, key string
		want      string
		was       bool
	}{
		{"", "a", "", false},
		{"", "", "", false},
		{"b", "a", "b=0", false},
		{"b", "b", "", true},
		{"b", "c", "b=0", false},
		{"a c e", "", "a=0 c=1 e=2", false},
		{"a c e", "a", "c=1 e=2", true},
		{"a c e", "b", "a=0 c=1 e=2", false},
		{"a c e", "c", "a=0 e=2", true},
		{"a c e", "e", "a=0 c=1", true},
		{"a c e", "f", "a=0 c=1 e=2", false},
		{"a ab b", "aa", "a=0 ab=1 b=2", false},
		{"a c e", text(17), "a=0 c=1 e=2", false},
		// Lists that are not valid.
		{"c a", "a", "c=0 a=1", false},
		{"c a", "c", "a=1", true},
		{"a a b", "a", "a=1 b=2", true},
		{"b a c", "c", "b=0 a=1", true},
	} {
		got, was := rows.Drop(list(c.keys), c.key)
		if told(got) != c.want || was != c.was {
			t.Errorf("Drop of %q from %q is %q, %v", c.key, c.keys, told(got), was)
		}
	}
}

func TestDropWhatIsNoKey(t *testing.T) {
	l := []api.Row{{Key: "", Value: "1"}, {Key: text(17), Value: "2"}}
	if got, was := rows.Drop(l, text(17)); told(got) != "=1" || !was {
		t.Errorf("Drop of a key of 17 bytes that is there is %q, %v", told(got), was)
	}
}

// P3.2, Cut.

func TestCut(t *testing.T) {
	for _, c := range []struct{ keys, key, before, others string }{
		{"", "a", "", ""},
		{"", "", "", ""},
		{"b", "a", "", "b=0"},
		{"b", "b", "", "b=0"},
		{"b", "c", "b=0", ""},
		{"a c e", "", "", "a=0 c=1 e=2"},
		{"a c e", "a", "", "a=0 c=1 e=2"},
		{"a c e", "b", "a=0", "c=1 e=2"},
		{"a c e", "c", "a=0", "c=1 e=2"},
		{"a c e", "d", "a=0 c=1", "e=2"},
		{"a c e", "e", "a=0 c=1", "e=2"},
		{"a c e", "f", "a=0 c=1 e=2", ""},
		{"a c e", text(17), "a=0 c=1 e=2", ""},
		// Lists that are not valid: at the index of the key.
		{"c a", "b", "", "c=0 a=1"},
		{"a c b d", "c", "a=0", "c=1 b=2 d=3"},
		{"b a c", "c", "b=0 a=1", "c=2"},
		{"a b b c", "b", "a=0", "b=1 b=2 c=3"},
	} {
		before, others := rows.Cut(list(c.keys), c.key)
		if told(before) != c.before || told(others) != c.others {
			t.Errorf("Cut of %q at %q is %q and %q", c.keys, c.key, told(before), told(others))
		}
	}
}

// P3.2, Halve.

func TestHalve(t *testing.T) {
	for _, c := range []struct{ keys, separator, first, second string }{
		{"a b c", "b", "a=0", "b=1 c=2"}, // example 1
		{"a b", "b", "a=0", "b=1"},
		{"a b c d", "c", "a=0 b=1", "c=2 d=3"},
		{"a b c d e", "c", "a=0 b=1", "c=2 d=3 e=4"},
		{"apple apricot", "apr", "apple=0", "apricot=1"},
		{"a bcd bd c d", "bd", "a=0 bcd=1", "bd=2 c=3 d=4"},
		{"a az cake d", "c", "a=0 az=1", "cake=2 d=3"},
		{"a abcd", "ab", "a=0", "abcd=1"},
		// Lists that are not valid: only the rows on both sides of the middle count.
		{"d a b", "", "", ""},
		{"z a b a", "b", "z=0 a=1", "b=2 a=3"},
		{"a a b b", "b", "a=0 a=1", "b=2 b=3"},
	} {
		separator, first, second, err := rows.Halve(list(c.keys))
		if c.separator == "" {
			if separator != "" || len(first) != 0 || len(second) != 0 || !errors.Is(err, api.ErrArg) {
				t.Errorf("Halve of %q is %q, %q, %q, %v", c.keys, separator, told(first), told(second), err)
			}
			continue
		}
		if separator != c.separator || told(first) != c.first || told(second) != c.second || err != nil {
			t.Errorf("Halve of %q is %q, %q, %q, %v", c.keys, separator, told(first), told(second), err)
		}
	}
}

func TestHalveOfFewerThanTwoRows(t *testing.T) {
	for _, l := range [][]api.Row{nil, {}, list("a"), {{Key: ""}}, {{Key: text(17)}}} {
		separator, first, second, err := rows.Halve(l)
		if separator != "" || len(first) != 0 || len(second) != 0 || !errors.Is(err, api.ErrRange) {
			t.Errorf("Halve of %q is %q, %q, %q, %v", l, separator, told(first), told(second), err)
		}
	}
}

func TestHalveWithoutASeparator(t *testing.T) {
	for _, l := range [][]api.Row{
		list("a a"),
		list("b a"),
		list("ab a"),
		list("a c b d"),
		list("a b b c"),
		{{Key: ""}, {Key: ""}},
		{{Key: text(18)}, {Key: text(17)}},
	} {
		separator, first, second, err := rows.Halve(l)
		if separator != "" || len(first) != 0 || len(second) != 0 || !errors.Is(err, api.ErrArg) {
			t.Errorf("Halve of %q is %q, %q, %q, %v", l, separator, told(first), told(second), err)
		}
	}
}

func TestHalveOfWhatAreNoKeys(t *testing.T) {
	l := []api.Row{{Key: "", Value: text(17)}, {Key: text(20)}}
	separator, first, second, err := rows.Halve(l)
	if separator != "k" || !slices.Equal(first, l[:1]) || !slices.Equal(second, l[1:]) || err != nil {
		t.Errorf("Halve is %q, %q, %q, %v", separator, first, second, err)
	}
}

// P3.2, Join.

func TestJoin(t *testing.T) {
	for _, c := range []struct{ a, b, want string }{
		{"", "", ""},
		{"a c", "", "a=0 c=1"},
		{"", "a c", "a=0 c=1"},
		{"a", "b", "a=0 b=0"},
		{"a", "ab", "a=0 ab=0"},
		{"a c", "d e", "a=0 c=1 d=0 e=1"},
		{"Z", "a", "Z=0 a=0"},
		// Lists that are not valid: only the last row of the one and the first row of the other count.
		{"x a", "b a", "x=0 a=1 b=0 a=1"},
		{"a a", "b b", "a=0 a=1 b=0 b=1"},
		{"", "b a", "b=0 a=1"},
		{"b a", "", "b=0 a=1"},
	} {
		got, err := rows.Join(list(c.a), list(c.b))
		if told(got) != c.want || err != nil {
			t.Errorf("Join of %q and %q is %q, %v", c.a, c.b, told(got), err)
		}
	}
}

func TestJoinOfRowsThatDoNotRise(t *testing.T) {
	for _, c := range [][2]string{
		{"a", "a"},
		{"b", "a"},
		{"ab", "a"},
		{"a c", "c d"},
		{"a c", "b d"},
		{"a d", "b e"},
		{"c d", "a b"},
		{"a c", "c"},
		{"a", "B"},
	} {
		got, err := rows.Join(list(c[0]), list(c[1]))
		if len(got) != 0 || !errors.Is(err, api.ErrRange) {
			t.Errorf("Join of %q and %q is %q, %v", c[0], c[1], told(got), err)
		}
	}
}

func TestJoinOfWhatAreNoKeys(t *testing.T) {
	none := []api.Row{{Key: ""}}
	if got, err := rows.Join(none, list("a")); told(got) != "= a=0" || err != nil {
		t.Errorf("Join is %q, %v", told(got), err)
	}
	if got, err := rows.Join(none, none); len(got) != 0 || !errors.Is(err, api.ErrRange) {
		t.Errorf("Join of two empty keys is %q, %v", told(got), err)
	}
}

// P3.2, Take.

func TestTake(t *testing.T) {
	whole := bkey.Span{Unbounded: true}
	piece := bkey.Span{Low: "b", High: "d"}
	for _, c := range []struct {
		keys    string
		s       bkey.Span
		limit   int
		reverse bool
		want    string
	}{
		{"", whole, 0, false, ""},
		{"", whole, 3, true, ""},
		{"a", whole, 0, false, "a=0"},
		{"a", whole, 1, true, "a=0"},
		{"a b c d", whole, 0, false, "a=0 b=1 c=2 d=3"},
		{"a b c d", whole, 0, true, "d=3 c=2 b=1 a=0"},
		{"a b c d", whole, -1, false, "a=0 b=1 c=2 d=3"},
		{"a b c d", whole, math.MinInt, true, "d=3 c=2 b=1 a=0"},
		{"a b c d", whole, 1, false, "a=0"},
		{"a b c d", whole, 1, true, "d=3"},
		{"a b c d", whole, 3, false, "a=0 b=1 c=2"},
		{"a b c d", whole, 3, true, "d=3 c=2 b=1"},
		{"a b c d", whole, 4, false, "a=0 b=1 c=2 d=3"},
		{"a b c d", whole, 5, true, "d=3 c=2 b=1 a=0"},
		{"a b c d", whole, math.MaxInt, false, "a=0 b=1 c=2 d=3"},
		// From Low on, up to, but not including, High.
		{"a b c d", piece, 0, false, "b=1 c=2"},
		{"a b c d", piece, 0, true, "c=2 b=1"},
		{"a b c d", piece, 1, false, "b=1"}, // what is outside does not count
		{"a b c d", piece, 1, true, "c=2"},
		{"a b c d", piece, 9, true, "c=2 b=1"},
		{"a bb cc e", piece, 0, false, "bb=1 cc=2"},
		{"a e", piece, 0, false, ""},
		{"a b c d", bkey.Span{High: "c"}, 0, false, "a=0 b=1"},
		{"a b c d", bkey.Span{Low: "c", Unbounded: true}, 0, false, "c=2 d=3"},
		{"a b c d", bkey.Span{Low: "c", Unbounded: true}, 1, true, "d=3"},
		{"a b c d", bkey.Span{Low: "b", High: "c", Unbounded: true}, 0, false, "b=1 c=2 d=3"}, // an unbounded span has no end, whatever its High
		{"a b c d", bkey.Span{Low: "e", Unbounded: true}, 0, false, ""},
		// Nothing is in these.
		{"a b c d", bkey.Span{}, 0, false, ""},
		{"a b c d", bkey.Span{Low: "b", High: "b"}, 0, false, ""},
		{"a b c d", bkey.Span{Low: "d", High: "b"}, 0, true, ""},
		// Lists that are not valid: row by row.
		{"c a b a", whole, 0, false, "c=0 a=1 b=2 a=3"},
		{"c a b a", whole, 0, true, "a=3 b=2 a=1 c=0"},
		{"c a b a", bkey.Span{High: "b"}, 0, false, "a=1 a=3"},
		{"c a b a", bkey.Span{High: "b"}, 1, true, "a=3"},
		{"d b e c a", piece, 0, false, "b=1 c=3"},
		{"d b e c a", piece, 1, true, "c=3"},
	} {
		got := rows.Take(list(c.keys), c.s, c.limit, c.reverse)
		if told(got) != c.want {
			t.Errorf("Take of %q, %+v, %d, %v is %q, not %q", c.keys, c.s, c.limit, c.reverse, told(got), c.want)
		}
	}
}

func TestTakeHasWhatIsInTheSpan(t *testing.T) {
	ends := []string{"", "a", "ab", "abb", "b", "z"}
	for _, l := range subsets(few) {
		for _, low := range ends {
			for _, high := range ends {
				checkTake(t, l, bkey.Span{Low: low, High: high})
				checkTake(t, l, bkey.Span{Low: low, High: high, Unbounded: true})
			}
		}
	}
}

func checkTake(t *testing.T, l []api.Row, s bkey.Span) {
	t.Helper()
	var rising []api.Row
	for _, r := range l {
		if r.Key >= s.Low && (s.Unbounded || r.Key < s.High) {
			rising = append(rising, r)
		}
	}
	falling := slices.Clone(rising)
	slices.Reverse(falling)
	for limit := -1; limit <= len(l)+1; limit++ {
		n := len(rising)
		if limit >= 1 {
			n = min(n, limit)
		}
		if got := rows.Take(l, s, limit, false); !slices.Equal(got, rising[:n]) {
			t.Fatalf("Take of %q, %+v, %d is %q", told(l), s, limit, told(got))
		}
		if got := rows.Take(l, s, limit, true); !slices.Equal(got, falling[:n]) {
			t.Fatalf("Take of %q, %+v, %d in reverse is %q", told(l), s, limit, told(got))
		}
	}
}

// P3.2, Same and Copy.

func TestSame(t *testing.T) {
	for _, c := range []struct {
		name string
		a, b []api.Row
		want bool
	}{
		{"nil and no rows", nil, []api.Row{}, true},
		{"no rows and nil", []api.Row{}, nil, true},
		{"equal", list("a b"), list("a b"), true},
		{"one is empty", list("a"), nil, false},
		{"the other one is empty", nil, list("a"), false},
		{"another key", list("a b"), list("a c"), false},
		{"another value", []api.Row{{Key: "a", Value: "1"}}, []api.Row{{Key: "a", Value: "2"}}, false},
		{"another value at the end", []api.Row{{Key: "a"}, {Key: "b", Value: "1"}}, []api.Row{{Key: "a"}, {Key: "b"}}, false},
		{"key and value turned", []api.Row{{Key: "a", Value: "b"}}, []api.Row{{Key: "b", Value: "a"}}, false},
		{"the same bytes, parted otherwise", []api.Row{{Key: "a", Value: "bc"}}, []api.Row{{Key: "ab", Value: "c"}}, false},
		{"a beginning", list("a b"), list("a b c"), false},
		{"a longer one", list("a b c"), list("a b"), false},
		{"another order", []api.Row{{Key: "a"}, {Key: "b"}}, []api.Row{{Key: "b"}, {Key: "a"}}, false},
		{"not valid, but equal", list("b a a"), list("b a a"), true},
		{"the same row once more", []api.Row{{Key: "a"}}, []api.Row{{Key: "a"}, {Key: "a"}}, false},
	} {
		if got := rows.Same(c.a, c.b); got != c.want {
			t.Errorf("%s: Same is %v", c.name, got)
		}
	}
}

func TestCopy(t *testing.T) {
	for _, l := range [][]api.Row{nil, {}, list("a"), list("a b c"), list("b a a"), {{Key: ""}, {Key: text(17), Value: text(17)}}, many(1000)} {
		if got := rows.Copy(l); !slices.Equal(got, l) {
			t.Errorf("Copy of %.60q is %.60q", told(l), told(got))
		}
	}
}

// What is handed in stays as it was, and what is handed out is new memory.

// roomy is rows with spare capacity that others may have something in.
func roomy(l []api.Row) []api.Row {
	room := append(slices.Clone(l), api.Row{Key: "spare", Value: "1"}, api.Row{Key: "spare", Value: "2"})
	return room[:len(l)]
}

// all is rows with what is in their spare capacity.
func all(l []api.Row) []api.Row { return l[:cap(l)] }

// checkMemory calls with two lists, and writes over each result in turn: nothing else may change.
func checkMemory(t *testing.T, name string, a, b []api.Row, call func(a, b []api.Row) [][]api.Row) {
	t.Helper()
	lists := [][]api.Row{roomy(a), roomy(b)}
	was := snapshot(lists)
	results := call(lists[0], lists[1])
	if !slices.EqualFunc(snapshot(lists), was, slices.Equal) {
		t.Errorf("%s of %q and %q changed what was handed in", name, told(a), told(b))
	}
	lists = append(lists, results...)
	for i := len(was); i < len(lists); i++ {
		before := snapshot(lists)
		overwrite(all(lists[i]))
		after := snapshot(lists)
		after[i] = before[i]
		if !slices.EqualFunc(after, before, slices.Equal) {
			t.Errorf("%s of %q and %q: result %d shares memory", name, told(a), told(b), i-len(was))
		}
	}
}

func snapshot(lists [][]api.Row) [][]api.Row {
	var s [][]api.Row
	for _, l := range lists {
		s = append(s, slices.Clone(all(l)))
	}
	return s
}

// overwrite puts other rows, that are different each time, in place of what is there.
func overwrite(l []api.Row) {
	for i := range l {
		l[i] = api.Row{Key: "over" + l[i].Key, Value: "written"}
	}
}

func TestMemory(t *testing.T) {
	lists := append(subsets("a b c d"), list("c a"), list("a a b"), list("b d a c"))
	for _, l := range lists {
		checkMemory(t, "Same", l, l, func(a, b []api.Row) [][]api.Row {
			rows.Right(a)
			rows.Same(a, b)
			return nil
		})
		checkMemory(t, "Copy", l, nil, func(a, _ []api.Row) [][]api.Row {
			return [][]api.Row{rows.Copy(a), rows.Copy(a)}
		})
		checkMemory(t, "Halve", l, nil, func(a, _ []api.Row) [][]api.Row {
			_, first, second, _ := rows.Halve(a)
			return [][]api.Row{first, second}
		})
		checkMemory(t, "Take", l, nil, func(a, _ []api.Row) [][]api.Row {
			s := bkey.Span{Unbounded: true}
			return [][]api.Row{rows.Take(a, s, 0, false), rows.Take(a, s, 0, true), rows.Take(a, s, 2, false)}
		})
		for _, key := range []string{"", "a", "bb", "d", "e"} {
			checkMemory(t, "Put, Drop and Cut at "+key, l, nil, func(a, _ []api.Row) [][]api.Row {
				rows.Find(a, key)
				put, _, _ := rows.Put(a, api.Row{Key: key, Value: "new"})
				dropped, _ := rows.Drop(a, key)
				before, others := rows.Cut(a, key)
				return [][]api.Row{put, dropped, before, others}
			})
		}
		for _, other := range lists {
			checkMemory(t, "Join", l, other, func(a, b []api.Row) [][]api.Row {
				joined, _ := rows.Join(a, b)
				return [][]api.Row{joined}
			})
		}
	}
}

// P3.3.

// without is rows other than a key's, found by looking at each.
func without(l []api.Row, key string) []api.Row {
	return slices.DeleteFunc(slices.Clone(l), func(r api.Row) bool { return r.Key == key })
}

func has(l []api.Row, key string) bool { return len(without(l, key)) < len(l) }

func TestWhatWasPutIsFound(t *testing.T) {
	for _, l := range subsets(few) {
		for _, key := range asked() {
			r := api.Row{Key: key, Value: "new"}
			put, was, err := rows.Put(l, r)
			if (err == nil) != bkey.Right(key) {
				t.Fatalf("Put of %q in %q: %v", key, told(l), err)
			}
			if err != nil {
				continue
			}
			i, there := rows.Find(put, key)
			if !there || put[i] != r || was != has(l, key) || !rows.Right(put) {
				t.Fatalf("Put of %q in %q is %q, %v", key, told(l), told(put), was)
			}
			if !slices.Equal(without(put, key), without(l, key)) {
				t.Fatalf("Put of %q in %q is %q: other rows changed", key, told(l), told(put))
			}
		}
	}
}

func TestWhatWasDroppedIsNotFound(t *testing.T) {
	for _, l := range subsets(few) {
		for _, key := range asked() {
			dropped, was := rows.Drop(l, key)
			if _, there := rows.Find(dropped, key); there || was != has(l, key) {
				t.Fatalf("Drop of %q from %q is %q, %v", key, told(l), told(dropped), was)
			}
			if !slices.Equal(dropped, without(l, key)) {
				t.Fatalf("Drop of %q from %q is %q: other rows changed", key, told(l), told(dropped))
			}
		}
	}
}

func TestPutsAndDropsInAnyOrder(t *testing.T) {
	var l []api.Row
	const n = 37 // prime, so that steps of any size come by every key
	for i := range n {
		k := string([]byte{byte(i * 5 % n)})
		l, _, _ = rows.Put(l, api.Row{Key: k, Value: k})
	}
	if !rows.Right(l) || len(l) != n {
		t.Fatalf("%d rows after %d puts", len(l), n)
	}
	for i := range n {
		var was bool
		if l, was = rows.Drop(l, string([]byte{byte(i * 7 % n)})); !was || len(l) != n-1-i || !rows.Right(l) {
			t.Fatalf("%d rows after %d drops of %d", len(l), i+1, n)
		}
	}
}

// P3.4.

func TestJoiningWhatWasCut(t *testing.T) {
	for _, l := range subsets(few) {
		for _, key := range asked() {
			before, others := rows.Cut(l, key)
			for _, r := range before {
				if r.Key >= key {
					t.Fatalf("Cut of %q at %q has %q before", told(l), key, told(before))
				}
			}
			for _, r := range others {
				if r.Key < key {
					t.Fatalf("Cut of %q at %q has %q as the others", told(l), key, told(others))
				}
			}
			if joined, err := rows.Join(before, others); !rows.Same(joined, l) || err != nil {
				t.Fatalf("Cut of %q at %q is joined to %q, %v", told(l), key, told(joined), err)
			}
		}
	}
}

func TestJoiningWhatWasHalved(t *testing.T) {
	for _, l := range append(subsets(few), many(500), many(501)) {
		separator, first, second, err := rows.Halve(l)
		if (err == nil) != (len(l) >= 2) {
			t.Fatalf("Halve of %q: %v", told(l), err)
		}
		if err != nil {
			continue
		}
		if len(first) != len(l)/2 {
			t.Fatalf("Halve of %d rows has %d in the first part", len(l), len(first))
		}
		if last, next := first[len(first)-1].Key, second[0].Key; separator <= last || separator > next {
			t.Fatalf("Halve of %q has the separator %q", told(l), separator)
		}
		if joined, err := rows.Join(first, second); !rows.Same(joined, l) || err != nil {
			t.Fatalf("Halve of %q is joined to %q, %v", told(l), told(joined), err)
		}
		before, others := rows.Cut(l, separator)
		if !rows.Same(before, first) || !rows.Same(others, second) {
			t.Fatalf("Halve and Cut of %q part at different places", told(l))
		}
	}
}
