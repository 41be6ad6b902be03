package commits_test

import (
	"slices"
	"strings"
	"testing"

	"rowlock/api"
	"rowlock/bkey"
	"rowlock/commits"
	"rowlock/rows"
)

func text(n int) string { return strings.Repeat("k", n) }

// list is rows, each as key=value.
func list(s string) []api.Row {
	var l []api.Row
	for _, f := range strings.Fields(s) {
		k, v, _ := strings.Cut(f, "=")
		l = append(l, api.Row{Key: k, Value: v})
	}
	return l
}

// writes is writes, each as key=value, or as -key for a deletion.
func writes(s string) []commits.Write {
	var l []commits.Write
	for _, r := range list(s) {
		k, gone := strings.CutPrefix(r.Key, "-")
		l = append(l, commits.Write{Key: k, Value: r.Value, Gone: gone})
	}
	return l
}

// parts is lists of writes, with a bar between two.
func parts(s string) [][]commits.Write {
	var all [][]commits.Write
	for p := range strings.SplitSeq(s, "|") {
		all = append(all, writes(p))
	}
	return all
}

// told is rows as a text.
func told(l []api.Row) string {
	var s []string
	for _, r := range l {
		s = append(s, r.Key+"="+r.Value)
	}
	return strings.Join(s, " ")
}

// P16.1, Right.

func TestRight(t *testing.T) {
	for _, c := range []struct {
		name string
		l    []commits.Write
		want bool
	}{
		{"nil", nil, true},
		{"no writes", []commits.Write{}, true},
		{"a put", writes("a=1"), true},
		{"a put of an empty value", writes("a="), true},
		{"a deletion", writes("-a"), true},
		{"rising", writes("a=1 -ab b=2 -c"), true},
		{"rising by one byte 0", []commits.Write{{Key: "a"}, {Key: "a\x00", Gone: true}}, true},
		{"bytes, not runes", []commits.Write{{Key: "\x7f"}, {Key: "\xc3"}, {Key: "é"}, {Key: "\xff", Gone: true}}, true},
		{"values need not rise", writes("a=2 b=1 c=1"), true},
		{"falling", writes("b=1 a=1"), false},
		{"falling deletions", writes("-b -a"), false},
		{"equal", writes("a=1 a=2"), false},
		{"the same write twice", writes("a=1 a=1"), false},
		{"a put and a deletion of the same key", writes("a=1 -a"), false},
		{"a deletion and a put of the same key", writes("-a a=1"), false},
		{"falling at the end", writes("a=1 b=1 c=1 b=1"), false},
		{"equal at the end", writes("a=1 b=1 -c -c"), false},
		{"a beginning comes last", writes("ab=1 a=1"), false},
		{"an empty key", []commits.Write{{Value: "1"}}, false},
		{"an empty key that is gone", []commits.Write{{Gone: true}}, false},
		{"an empty key ahead", []commits.Write{{Gone: true}, {Key: "a"}}, false},
		{"a key of 16 bytes", []commits.Write{{Key: text(16)}}, true},
		{"a key of 16 bytes that is gone", []commits.Write{{Key: text(16), Gone: true}}, true},
		{"a key of 17 bytes", []commits.Write{{Key: text(17)}}, false},
		{"a key of 17 bytes that is gone", []commits.Write{{Key: text(17), Gone: true}}, false},
		{"a key of 17 bytes at the end", []commits.Write{{Key: "a"}, {Key: text(17)}}, false},
		{"a value of 16 bytes", []commits.Write{{Key: "a", Value: text(16)}}, true},
		{"a value of 17 bytes", []commits.Write{{Key: "a", Value: text(17)}}, false},
		{"a value of 9 runes, but 18 bytes", []commits.Write{{Key: "a", Value: strings.Repeat("é", 9)}}, false},
		{"a value of 17 bytes at the end", []commits.Write{{Key: "a"}, {Key: "b", Value: text(17)}}, false},
		{"a deletion with a value", writes("-a=1"), false},
		{"a deletion with a value at the end", writes("a=1 b=1 -c=1"), false},
		{"a deletion with a value ahead", writes("-a=1 b=1"), false},
	} {
		if got := commits.Right(c.l); got != c.want {
			t.Errorf("%s: Right is %v", c.name, got)
		}
	}
}

func TestRightOfManyWrites(t *testing.T) {
	var l []commits.Write
	for i := range 1000 {
		l = append(l, commits.Write{Key: string([]byte{byte(i >> 8), byte(i)}), Gone: i%2 == 0})
	}
	if !commits.Right(l) {
		t.Error("writes have no greatest number, but Right is false")
	}
	l[999].Key = l[998].Key
	if commits.Right(l) {
		t.Error("the last of many writes is out of order, but Right is true")
	}
}

// P16.3, Over.

func TestOver(t *testing.T) {
	for _, c := range []struct{ l, parts, want string }{
		{"", "", ""},
		{"a=1 b=2", "", "a=1 b=2"},
		{"", "a=1", "a=1"},
		{"", "-a", ""},
		{"a=1", "-a", ""},
		{"a=1", "a=2", "a=2"},
		{"a=1", "a=", "a="},
		{"a=1 c=3", "b=2", "a=1 b=2 c=3"},
		{"b=2", "a=1 c=3", "a=1 b=2 c=3"},
		{"a=1 b=2 c=3", "-b", "a=1 c=3"},
		{"a=1 b=2 c=3", "-a b=5 -c d=4", "b=5 d=4"},
		{"a=1", "-b", "a=1"},
		// One part after the other.
		{"a=1", "a=2|a=3", "a=3"},
		{"a=1", "a=3|a=2", "a=2"},
		{"a=1", "-a|a=2", "a=2"},
		{"a=1", "a=2|-a", ""},
		{"a=1 b=2", "-a c=3|a=4", "a=4 b=2 c=3"},
		{"a=1 b=2", "a=4|-a c=3", "b=2 c=3"},
		{"b=2", "a=1||c=3|-b|", "a=1 c=3"},
		{"", "a=1|b=1|a=2|-b|c=1|b=3", "a=2 b=3 c=1"},
		// Parts that are not valid: write by write.
		{"a=1", "c=3 b=2", "a=1 b=2 c=3"},
		{"a=1", "a=2 a=3", "a=3"},
		{"a=1", "a=2 -a", ""},
		{"a=1", "-a a=2", "a=2"},
		{"a=1 b=2", "-a=7", "b=2"},
	} {
		got := commits.Over(list(c.l), parts(c.parts)...)
		if told(got) != c.want {
			t.Errorf("Over(%q, %q) is %q, not %q", c.l, c.parts, told(got), c.want)
		}
	}
	if got := commits.Over(list("a=1")); told(got) != "a=1" {
		t.Errorf("Over of no parts is %q", told(got))
	}
	if got := commits.Over(nil, nil, nil); len(got) != 0 {
		t.Errorf("Over of nil is %q", told(got))
	}
}

func TestOverIgnoresWhatWouldBeNoRow(t *testing.T) {
	for _, w := range []commits.Write{
		{Value: "1"}, {}, {Key: text(17), Value: "1"}, {Key: "a", Value: text(17)}, {Key: "c", Value: text(17)}, {Key: "b", Value: strings.Repeat("x", 1<<20)},
		{Gone: true}, {Key: text(17), Gone: true}, // there are no such keys
	} {
		for _, l := range []string{"", "a=1", "a=1 b=2"} {
			if got := commits.Over(list(l), []commits.Write{w}); told(got) != l {
				t.Errorf("Over(%q, %.60v) is %q", l, w, told(got))
			}
			got := commits.Over(list(l), []commits.Write{w, {Key: "d", Value: "4"}}, []commits.Write{{Key: "e", Value: "5"}, w})
			if want := strings.TrimSpace(l + " d=4 e=5"); told(got) != want {
				t.Errorf("Over(%q) with %.60v is %q, not %q", l, w, told(got), want)
			}
		}
	}
	long := []commits.Write{{Key: text(16), Value: text(16)}}
	if got := commits.Over(nil, long); len(got) != 1 || got[0].Key != text(16) || got[0].Value != text(16) {
		t.Errorf("Over of a long row is %q", told(got))
	}
}

// P16.3, Find.

func TestFind(t *testing.T) {
	for _, c := range []struct {
		key, parts string
		want       commits.Write
		there      bool
	}{
		{"a", "", commits.Write{}, false},
		{"", "", commits.Write{}, false},
		{"", "a=1", commits.Write{}, false},
		{"a", "a=1", commits.Write{Key: "a", Value: "1"}, true},
		{"a", "a=", commits.Write{Key: "a"}, true},
		{"a", "-a", commits.Write{Key: "a", Gone: true}, true},
		{"b", "a=1 b=2 c=3", commits.Write{Key: "b", Value: "2"}, true},
		{"c", "a=1 b=2 c=3", commits.Write{Key: "c", Value: "3"}, true},
		{"ab", "a=1 abc=2", commits.Write{}, false},
		{"d", "a=1|b=2|c=3", commits.Write{}, false},
		// The last part that has one.
		{"a", "a=1|a=2", commits.Write{Key: "a", Value: "2"}, true},
		{"a", "a=2|a=1", commits.Write{Key: "a", Value: "1"}, true},
		{"a", "a=1|-a", commits.Write{Key: "a", Gone: true}, true},
		{"a", "-a|a=1", commits.Write{Key: "a", Value: "1"}, true},
		{"a", "a=1|b=2", commits.Write{Key: "a", Value: "1"}, true},
		{"a", "b=2|a=1", commits.Write{Key: "a", Value: "1"}, true},
		{"a", "a=1|-a|b=2||", commits.Write{Key: "a", Gone: true}, true},
		{"b", "a=1 b=1|a=2 b=2|a=3", commits.Write{Key: "b", Value: "2"}, true},
		// Parts that are not valid: the first one in the part.
		{"a", "c=1 a=2", commits.Write{Key: "a", Value: "2"}, true},
		{"a", "a=1 a=2", commits.Write{Key: "a", Value: "1"}, true},
		{"a", "a=0|a=1 -a|b=5", commits.Write{Key: "a", Value: "1"}, true},
		{"a", "-a=1", commits.Write{Key: "a", Value: "1", Gone: true}, true},
	} {
		got, there := commits.Find(c.key, parts(c.parts)...)
		if got != c.want || there != c.there {
			t.Errorf("Find(%q, %q) is %v, %v, not %v, %v", c.key, c.parts, got, there, c.want, c.there)
		}
	}
	if w, there := commits.Find("a"); there || w != (commits.Write{}) {
		t.Errorf("Find in no parts is %v, %v", w, there)
	}
	if w, there := commits.Find("", []commits.Write{{Value: "x"}}, nil); !there || w.Value != "x" {
		t.Errorf("Find of an empty key is %v, %v", w, there)
	}
}

// P16.3, Clash.

func TestClash(t *testing.T) {
	bc := bkey.Span{Low: "b", High: "c"}
	for _, c := range []struct {
		name  string
		keys  []string
		spans []bkey.Span
		l     string
		want  bool
	}{
		{"nothing", nil, nil, "", false},
		{"nothing read", nil, nil, "a=1 -b", false},
		{"nothing written", []string{"a"}, []bkey.Span{{Unbounded: true}}, "", false},
		{"a key that was put", []string{"a"}, nil, "a=1", true},
		{"a key that was dropped", []string{"a"}, nil, "-a", true},
		{"another key", []string{"b"}, nil, "a=1 c=1", false},
		{"a longer key", []string{"a"}, nil, "ab=1", false},
		{"a shorter key", []string{"ab"}, nil, "a=1", false},
		{"the last key and the last write", []string{"x", "y", "c"}, nil, "a=1 b=1 c=1", true},
		{"the first key and the last write", []string{"c", "x", "y"}, nil, "a=1 b=1 c=1", true},
		{"keys that do not rise", []string{"c", "b", "a"}, nil, "a=1", true},
		{"the low end of a span", nil, []bkey.Span{bc}, "b=1", true},
		{"within a span", nil, []bkey.Span{bc}, "bb=1", true},
		{"the high end of a span", nil, []bkey.Span{bc}, "c=1", false},
		{"before a span", nil, []bkey.Span{bc}, "a=1", false},
		{"around a span", nil, []bkey.Span{bc}, "a=1 c=1", false},
		{"a deletion within a span", nil, []bkey.Span{bc}, "a=1 -bb", true},
		{"all keys", nil, []bkey.Span{{Unbounded: true}}, "-a", true},
		{"from a key on", nil, []bkey.Span{{Low: "b", Unbounded: true}}, "a=1", false},
		{"from a key on, whatever High", nil, []bkey.Span{{Low: "b", High: "c", Unbounded: true}}, "z=1", true},
		{"an empty span", nil, []bkey.Span{{}}, "a=1", false},
		{"a span of one point", nil, []bkey.Span{{Low: "b", High: "b"}}, "b=1", false},
		{"a span the wrong way", nil, []bkey.Span{{Low: "c", High: "a"}}, "b=1", false},
		{"the last span and the last write", nil, []bkey.Span{{High: "a"}, {Low: "x", High: "y"}, bc}, "a=1 b=1", true},
		{"the first span and the first write", nil, []bkey.Span{bc, {High: "a"}}, "b=1 d=1", true},
		{"neither keys nor spans", []string{"a", "z"}, []bkey.Span{bc}, "aa=1 c=1", false},
		{"keys, but no spans", []string{"a", "c"}, []bkey.Span{bc}, "c=1", true},
		{"spans, but no keys", []string{"a", "c"}, []bkey.Span{bc}, "bx=1", true},
		{"writes that are not valid", []string{"a"}, nil, "b=1 a=1", true},
	} {
		if got := commits.Clash(c.keys, c.spans, writes(c.l)); got != c.want {
			t.Errorf("%s: Clash is %v", c.name, got)
		}
	}
}

func TestClashOfAllSpans(t *testing.T) {
	ends := []string{"", "a", "ab", "b", "c"}
	for _, key := range []string{"a", "aa", "ab", "abc", "b", "bb", "c", "d"} {
		for _, gone := range []bool{false, true} {
			for _, low := range ends {
				for _, high := range ends {
					for _, unbounded := range []bool{false, true} {
						s := bkey.Span{Low: low, High: high, Unbounded: unbounded}
						got := commits.Clash(nil, []bkey.Span{s}, []commits.Write{{Key: key, Gone: gone}})
						if want := key >= low && (unbounded || key < high); got != want {
							t.Errorf("Clash of %q and %+v is %v", key, s, got)
						}
					}
				}
			}
		}
	}
}

// P16.5, and Over against what the chapter says of each key.

// valid are all valid writes of two keys.
func valid() [][]commits.Write {
	all := [][]commits.Write{nil}
	for _, k := range []string{"a", "b"} {
		for _, l := range all {
			all = append(all, append(slices.Clone(l), commits.Write{Key: k, Value: "1"}))
			all = append(all, append(slices.Clone(l), commits.Write{Key: k, Value: "2"}))
			all = append(all, append(slices.Clone(l), commits.Write{Key: k, Gone: true}))
		}
	}
	return all
}

// contains is the row of a key.
func contains(l []api.Row, key string) (api.Row, bool) {
	for _, r := range l {
		if r.Key == key {
			return r, true
		}
	}
	return api.Row{}, false
}

func TestWhatFindReturnsIsWhatTheRowsContain(t *testing.T) {
	t.Parallel()
	some := valid()
	for _, l := range [][]api.Row{nil, list("a=0"), list("b=0 c=0"), list("a=0 ab=0 b=0")} {
		for _, p := range some {
			for _, q := range some {
				for _, r := range some {
					checkParts(t, l, p, q, r)
				}
			}
		}
	}
}

// checkParts asks for every key that rows after parts contain what was last written of it, or else what was there.
func checkParts(t *testing.T, l []api.Row, parts ...[]commits.Write) {
	t.Helper()
	got := commits.Over(l, parts...)
	if !rows.Right(got) {
		t.Fatalf("Over(%q, %v) is not valid: %q", told(l), parts, told(got))
	}
	count := 0
	for _, key := range []string{"a", "ab", "b", "c"} {
		r, in := contains(got, key)
		if in {
			count++
		}
		w, written := commits.Find(key, parts...)
		want, wantIn := contains(l, key)
		if written {
			want, wantIn = api.Row{Key: w.Key, Value: w.Value}, !w.Gone
		}
		if in != wantIn || in && r != want {
			t.Fatalf("Over(%q, %v) is %q, but Find of %q is %v, %v", told(l), parts, told(got), key, w, written)
		}
	}
	if count != len(got) {
		t.Fatalf("Over(%q, %v) is %q: other rows", told(l), parts, told(got))
	}
}

func TestOverOfManyRows(t *testing.T) {
	t.Parallel()
	key := func(i int) string { return string([]byte{byte(i >> 8), byte(i)}) }
	var l []api.Row
	var drops, puts []commits.Write
	for i := range 600 {
		l = append(l, api.Row{Key: key(2 * i), Value: "0"})
		drops = append(drops, commits.Write{Key: key(2 * i), Gone: true})
		puts = append(puts, commits.Write{Key: key(2*i + 1), Value: "1"})
	}
	got := commits.Over(l, puts)
	if !rows.Right(got) || len(got) != 1200 {
		t.Fatalf("%d rows after 600 puts", len(got))
	}
	got = commits.Over(l, drops, puts, drops)
	if !rows.Right(got) || len(got) != 600 || got[0].Value != "1" {
		t.Fatalf("%d rows after 600 drops and puts", len(got))
	}
}

// What is handed in stays as it was, and what is handed out is new memory.

// roomyRows is rows with spare capacity that others may have something in.
func roomyRows(l []api.Row) []api.Row {
	room := append(slices.Clone(l), api.Row{Key: "spare", Value: "1"}, api.Row{Key: "spare", Value: "2"})
	return room[:len(l)]
}

func TestOverSharesNoMemory(t *testing.T) {
	for _, c := range []struct{ l, parts string }{
		{"", ""}, {"a=1", ""}, {"a=1 b=2", "|"}, {"", "a=1"}, {"a=1", "a=1"}, {"a=1 b=2", "-b"}, {"a=1 b=2", "-c"}, {"a=1 b=2", "b=3|c=4|-a"},
	} {
		l := roomyRows(list(c.l))
		was := slices.Clone(l[:cap(l)])
		var ps, before [][]commits.Write
		for _, p := range parts(c.parts) {
			ps = append(ps, roomy(p))
			before = append(before, slices.Clone(roomy(p)[:len(p)+2]))
		}
		got, again := commits.Over(l, ps...), commits.Over(l, ps...)
		want := slices.Clone(again)
		for i := range got[:cap(got)] {
			got[:cap(got)][i] = api.Row{Key: "over", Value: "written"}
		}
		if !slices.Equal(l[:cap(l)], was) || !slices.Equal(again, want) {
			t.Errorf("Over(%q, %q) shares memory, or changed rows", c.l, c.parts)
		}
		for i, p := range ps {
			if !slices.Equal(p[:len(p)+2], before[i]) {
				t.Errorf("Over(%q, %q) changed part %d", c.l, c.parts, i)
			}
		}
	}
}

func TestNothingIsChanged(t *testing.T) {
	l := roomy(writes("a=1 -b c=3"))
	was := slices.Clone(l[:cap(l)])
	keys, spans := []string{"c", "b", "a"}, []bkey.Span{{Low: "x", Unbounded: true}, {Low: "a", High: "b"}}
	commits.Right(l)
	commits.Find("c", l, l)
	commits.Clash(keys, spans, l)
	commits.Clash(nil, spans, l)
	if !slices.Equal(l[:cap(l)], was) || !slices.Equal(keys, []string{"c", "b", "a"}) || spans[0].Low != "x" || spans[1] != (bkey.Span{Low: "a", High: "b"}) {
		t.Errorf("arguments changed: %v, %v, %v", l[:cap(l)], keys, spans)
	}
}
