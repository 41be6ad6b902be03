package bkey_test

import (
	"errors"
	"strings"
	"testing"

	"rowlock/api"
	"rowlock/bkey"
)

// texts are all texts of at most n bytes, each one of alphabet.
func texts(n int, alphabet string) []string {
	all := []string{""}
	from := 0
	for range n {
		to := len(all)
		for _, s := range all[from:to] {
			for i := range len(alphabet) {
				all = append(all, s+alphabet[i:i+1])
			}
		}
		from = to
	}
	return all
}

// before is the order as the chapter's words say it: bytewise, and a proper prefix comes first.
func before(a, b string) bool {
	for i := 0; i < len(a) && i < len(b); i++ {
		if a[i] != b[i] {
			return a[i] < b[i]
		}
	}
	return len(a) < len(b)
}

func top(n int) string { return strings.Repeat("\xff", n) }

func zeros(n int) string { return strings.Repeat("\x00", n) }

// P2.1, Right.

func TestRight(t *testing.T) {
	for _, c := range []struct {
		key  string
		want bool
	}{
		{"", false},
		{"a", true},
		{"\x00", true},
		{"\xff", true},
		{strings.Repeat("k", 15), true},
		{strings.Repeat("k", 16), true},
		{strings.Repeat("k", 17), false},
		{zeros(16), true},
		{top(16), true},
		{top(17), false},
		{strings.Repeat("é", 8), true},  // 16 bytes
		{strings.Repeat("é", 9), false}, // 9 runes, but 18 bytes
		{strings.Repeat("k", 1<<20), false},
	} {
		if got := bkey.Right(c.key); got != c.want {
			t.Errorf("Right of %d bytes %.20q is %v", len(c.key), c.key, got)
		}
	}
}

// P2.1, Compare.

func TestCompareInRisingOrder(t *testing.T) {
	rising := []string{
		"", "\x00", "\x00\x00", "\x00\x01", "\x00\xff", "\x01", "A", "a", "a\x00", "a\x00b", "aa", "ab", "a\xff", "b",
		strings.Repeat("k", 16), strings.Repeat("k", 17), "\x7f", "\x80", "\xc3", "è", "é", "\xfe\xff", "\xff", "\xff\x00", "\xff\xff",
	}
	for i, a := range rising {
		for k, b := range rising {
			want := 0
			if i < k {
				want = -1
			} else if i > k {
				want = 1
			}
			if got := bkey.Compare(a, b); got != want {
				t.Errorf("Compare(%q, %q) is %d, not %d", a, b, got, want)
			}
		}
	}
}

func TestCompareIsTheOrderOfTheWords(t *testing.T) {
	all := texts(3, "\x00a\xff")
	for _, a := range all {
		for _, b := range all {
			want := 0
			if before(a, b) {
				want = -1
			} else if before(b, a) {
				want = 1
			}
			if got := bkey.Compare(a, b); got != want {
				t.Errorf("Compare(%q, %q) is %d, not %d", a, b, got, want)
			}
		}
	}
}

func TestCompareOfLongTexts(t *testing.T) {
	long := strings.Repeat("x", 1<<20)
	if bkey.Compare(long, long) != 0 || bkey.Compare(long, long+"\x00") != -1 || bkey.Compare(long+"b", long+"a") != 1 {
		t.Error("long texts are out of order")
	}
}

// P2.1, Common.

func TestCommon(t *testing.T) {
	long := strings.Repeat("x", 1<<20)
	for _, c := range []struct {
		a, b string
		want int
	}{
		{"", "", 0},
		{"", "a", 0},
		{"a", "b", 0},
		{"abc", "abd", 2},
		{"abc", "abc", 3},
		{"ab", "abc", 2},
		{"apple", "apricot", 2},
		{"xbc", "abc", 0},
		{"axc", "abc", 1}, // what is alike again later does not count
		{"\x00", "\x00\x00", 1},
		{"\x00", "\xff", 0},
		{"\xff\xff\x00", "\xff\xff\xff", 2},
		{"é", "è", 1}, // bytes, not runes
		{strings.Repeat("k", 16), strings.Repeat("k", 17), 16},
		{long + "a", long + "b", 1 << 20},
	} {
		if got := bkey.Common(c.a, c.b); got != c.want {
			t.Errorf("Common(%.20q, %.20q) is %d, not %d", c.a, c.b, got, c.want)
		}
		if got := bkey.Common(c.b, c.a); got != c.want {
			t.Errorf("Common(%.20q, %.20q) is %d, not %d", c.b, c.a, got, c.want)
		}
	}
}

// P2.1, Between.

func TestBetween(t *testing.T) {
	for _, c := range []struct{ a, b, want string }{
		{"apple", "apricot", "apr"}, // example 1
		{"a", "b", "b"},
		{"a", "c", "c"}, // a beginning of the second text, even if another text lies nearer
		{"a", "ab", "ab"},
		{"a", "abcd", "ab"},
		{"ab", "b", "b"},
		{"abzz", "ac", "ac"},
		{"", "a", "a"},
		{"", "zoo", "z"},
		{"", "\x00", "\x00"},
		{"a", "a\x00\x00", "a\x00"},
		{"\x00", "\xff\xff", "\xff"},
		{"\xff", "\xff\x00", "\xff\x00"},
		{top(15) + "\xfe", top(16), top(16)},
		{"è", "é", "é"},
		{"é", "\xc3\xffa", "\xc3\xff"}, // cut inside of what might be a rune
		{strings.Repeat("k", 16), strings.Repeat("k", 18), strings.Repeat("k", 17)}, // the texts need not be keys
		{"", strings.Repeat("k", 1<<20), "k"},
	} {
		got, err := bkey.Between(c.a, c.b)
		if got != c.want || err != nil {
			t.Errorf("Between(%q, %.20q) is %q, %v, not %q", c.a, c.b, got, err, c.want)
		}
	}
}

func TestBetweenOfTextsThatDoNotRise(t *testing.T) {
	for _, c := range [][2]string{
		{"", ""},
		{"a", ""},
		{"a", "a"},
		{"b", "a"},
		{"ab", "a"},
		{"a\x00", "a"},
		{"\xff", "\x00"},
		{"é", "è"},
		{top(16), top(16)},
		{top(17), top(16)},
	} {
		got, err := bkey.Between(c[0], c[1])
		if got != "" || !errors.Is(err, api.ErrArg) {
			t.Errorf("Between(%q, %q) is %q, %v", c[0], c[1], got, err)
		}
	}
}

// P2.1, Next.

func TestNext(t *testing.T) {
	k15 := strings.Repeat("k", 15)
	for _, c := range []struct{ key, want string }{
		{"a", "a\x00"}, // example 1
		{"\x00", "\x00\x00"},
		{"\xff", "\xff\x00"},
		{k15, k15 + "\x00"},
		{zeros(15), zeros(16)},
		{top(15), top(15) + "\x00"},
		{k15 + "a", k15 + "b"},
		{zeros(16), zeros(15) + "\x01"},
		{k15 + "\x7f", k15 + "\x80"}, // a byte, not a rune
		{k15 + "\xfe", k15 + "\xff"},
		{k15 + "\xff", k15[:14] + "l"},
		{k15[:13] + "\xfe\xff\xff", k15[:13] + "\xff"},
		{k15[:12] + "\xffk\xff\xff", k15[:12] + "\xffl"}, // an earlier 255 stays
		{"\xff" + k15, "\xff" + k15[:14] + "l"},
		{"a" + top(15), "b"},
		{"\x00" + top(15), "\x01"},
		{"\xfe" + top(15), "\xff"},
	} {
		got, err := bkey.Next(c.key)
		if got != c.want || err != nil {
			t.Errorf("Next(%q) is %q, %v, not %q", c.key, got, err, c.want)
		}
	}
}

func TestNextOfTheLastKey(t *testing.T) {
	if got, err := bkey.Next(top(16)); got != "" || !errors.Is(err, api.ErrNone) {
		t.Errorf("Next of the last key is %q, %v", got, err)
	}
}

func TestNextOfNoKey(t *testing.T) {
	for _, key := range []string{"", strings.Repeat("k", 17), top(17), strings.Repeat("k", 1<<20)} {
		got, err := bkey.Next(key)
		if got != "" || !errors.Is(err, api.ErrArg) {
			t.Errorf("Next of %d bytes is %q, %v", len(key), got, err)
		}
	}
}

// P2.2, In.

func TestIn(t *testing.T) {
	for _, c := range []struct {
		low, high string
		unbounded bool
		key       string
		want      bool
	}{
		{"b", "d", false, "a", false},
		{"b", "d", false, "a\xff", false},
		{"b", "d", false, "b", true},
		{"b", "d", false, "b\x00", true},
		{"b", "d", false, "c\xff\xff", true},
		{"b", "d", false, "d", false},
		{"b", "d", false, "d\x00", false},
		{"", "a", false, "\x00", true},
		{"", "a", false, "", true}, // asked of any text, key or not
		{"", "", false, "", false},
		{"", "", false, "a", false},
		{"", "", true, "", true},
		{"", "", true, top(16), true},
		{"b", "", true, "a", false},
		{"b", "", true, "b", true},
		{"b", "", true, "zz", true},
		{"b", "c", true, "x", true}, // an unbounded span has no end, whatever its High
		{"c", "b", true, "b", false},
		{"c", "b", true, "c", true},
		{"c", "a", false, "b", false}, // Low is not before High: nothing is in it
		{"c", "a", false, "a", false},
		{"c", "a", false, "c", false},
		{"c", "c", false, "c", false},
		{"\x00", "\xff", false, "\xfe\xff", true},
		{"\x00", "\xff", false, "\xff", false},
		{"a", strings.Repeat("k", 17), false, strings.Repeat("k", 16), true},
	} {
		if got := bkey.In(c.low, c.high, c.unbounded, c.key); got != c.want {
			t.Errorf("In(%q, %q, %v, %q) is %v", c.low, c.high, c.unbounded, c.key, got)
		}
	}
}

// P2.2, Meet.

func bounded(low, high string) bkey.Span { return bkey.Span{Low: low, High: high} }

func unbounded(low string) bkey.Span { return bkey.Span{Low: low, Unbounded: true} }

func TestMeet(t *testing.T) {
	for _, c := range []struct {
		name string
		a, b bkey.Span
		want bkey.Span
		ok   bool
	}{
		{"overlap", bounded("a", "c"), bounded("b", "d"), bounded("b", "c"), true},
		{"inside", bounded("a", "e"), bounded("b", "c"), bounded("b", "c"), true},
		{"equal", bounded("a", "c"), bounded("a", "c"), bounded("a", "c"), true},
		{"from the lowest on", bounded("", "b"), bounded("", "c"), bounded("", "b"), true},
		{"one key", bounded("a", "b\x00"), bounded("b", "c"), bounded("b", "b\x00"), true},
		{"one unbounded", bounded("a", "d"), unbounded("b"), bounded("b", "d"), true},
		{"one unbounded, from further left", bounded("b", "d"), unbounded(""), bounded("b", "d"), true},
		{"both unbounded", unbounded("x"), unbounded(""), unbounded("x"), true},
		{"both unbounded from the lowest on", unbounded(""), unbounded(""), unbounded(""), true},
		{"the High of an unbounded span is nothing", bkey.Span{Low: "x", High: "y", Unbounded: true}, bkey.Span{High: "a", Unbounded: true}, unbounded("x"), true},
		{"nor does it bound another span", bkey.Span{Low: "a", High: "b", Unbounded: true}, bounded("c", "d"), bounded("c", "d"), true},
		{"side by side", bounded("a", "b"), bounded("b", "c"), bkey.Span{}, false},
		{"apart", bounded("a", "b"), bounded("c", "d"), bkey.Span{}, false},
		{"apart from an unbounded one", bounded("a", "c"), unbounded("c"), bkey.Span{}, false},
		{"zero spans", bkey.Span{}, bkey.Span{}, bkey.Span{}, false},
		{"a zero span", bkey.Span{}, unbounded(""), bkey.Span{}, false},
		{"turned round", bounded("c", "a"), unbounded(""), bkey.Span{}, false},
		{"turned round in a greater one", bounded("c", "b"), bounded("a", "d"), bkey.Span{}, false},
		{"turned round twice", bounded("c", "a"), bounded("d", "b"), bkey.Span{}, false},
		{"Low equal to High", bounded("b", "b"), bounded("a", "c"), bkey.Span{}, false},
		{"no length limit", bounded(top(16), top(18)), bounded(top(17), top(19)), bounded(top(17), top(18)), true},
		{"bytes, not runes", bounded("\x7f", "é"), bounded("\xc3", "\xff"), bounded("\xc3", "é"), true},
	} {
		if got, ok := bkey.Meet(c.a, c.b); got != c.want || ok != c.ok {
			t.Errorf("%s: Meet is %+v, %v", c.name, got, ok)
		}
		if got, ok := bkey.Meet(c.b, c.a); got != c.want || ok != c.ok {
			t.Errorf("%s, turned: Meet is %+v, %v", c.name, got, ok)
		}
	}
}

func spans(ends []string) []bkey.Span {
	var all []bkey.Span
	for _, low := range ends {
		for _, high := range ends {
			all = append(all, bkey.Span{Low: low, High: high}, bkey.Span{Low: low, High: high, Unbounded: true})
		}
	}
	return all
}

func contains(s bkey.Span, key string) bool {
	return bkey.In(s.Low, s.High, s.Unbounded, key)
}

func TestMeetHasWhatIsInBoth(t *testing.T) {
	all := spans([]string{"", "\x00", "a", "ab", "b", "\xff"})
	keys := texts(3, "\x00ab\xff")
	for _, a := range all {
		for _, b := range all {
			m, ok := bkey.Meet(a, b)
			if !ok && m != (bkey.Span{}) || ok && m.Unbounded && m.High != "" {
				t.Fatalf("Meet(%+v, %+v) is %+v, %v", a, b, m, ok)
			}
			for _, key := range keys {
				both := contains(a, key) && contains(b, key)
				if in := ok && contains(m, key); in != both {
					t.Fatalf("Meet(%+v, %+v) is %+v, %v: %q is in both: %v", a, b, m, ok, key, both)
				}
			}
		}
	}
}

// P2.3.

func TestBetweenIsTheShortest(t *testing.T) {
	all := texts(4, "\x00a\xff")
	for _, a := range all {
		for _, b := range all {
			s, err := bkey.Between(a, b)
			if (err == nil) != before(a, b) {
				t.Fatalf("Between(%q, %q): %v", a, b, err)
			}
			if err != nil {
				continue
			}
			if !before(a, s) || before(b, s) || !strings.HasPrefix(b, s) {
				t.Fatalf("Between(%q, %q) is %q", a, b, s)
			}
			for i := range len(s) {
				if before(a, b[:i]) {
					t.Fatalf("Between(%q, %q) is %q, and %q is shorter", a, b, s, b[:i])
				}
			}
		}
	}
}

// P2.4.

func TestNoKeyLiesBeforeNext(t *testing.T) {
	var keys []string
	for _, begin := range []string{"", strings.Repeat("k", 13), top(13), top(12) + "k"} {
		for _, end := range texts(3, "\x00\x01\xfe\xff") {
			if bkey.Right(begin + end) {
				keys = append(keys, begin+end)
			}
		}
	}
	for _, key := range keys {
		next, err := bkey.Next(key)
		if (err == nil) == (key == top(16)) {
			t.Fatalf("Next(%q): %v", key, err)
		}
		if err == nil && (!bkey.Right(next) || !before(key, next)) {
			t.Fatalf("Next(%q) is %q", key, next)
		}
		for _, other := range keys {
			if before(key, other) && (err != nil || before(other, next)) {
				t.Fatalf("Next(%q) is %q, and %q lies between", key, next, other)
			}
		}
	}
}
