package plan_test

import (
	"math"
	"reflect"
	"slices"
	"strconv"
	"strings"
	"testing"

	"rowlock/api"
	"rowlock/inner"
	"rowlock/leaf"
	"rowlock/page"
	"rowlock/plan"
)

func ref(slot, gen int) api.Ref { return api.Ref{Slot: slot, Gen: gen} }

func entry(key string, n int) api.Entry { return api.Entry{Key: key, Page: n} }

func hold(n, left int, key string) api.Hold { return api.Hold{Page: n, Left: left, Key: key} }

// list is rows of keys.
func list(keys string) []api.Row {
	var l []api.Row
	for _, k := range strings.Fields(keys) {
		l = append(l, api.Row{Key: k, Value: "v" + k})
	}
	return l
}

// entries is an entry of low with page 2, and entries of keys with the pages from 3 on.
func entries(low, keys string) []api.Entry {
	l := []api.Entry{entry(low, 2)}
	for i, k := range strings.Fields(keys) {
		l = append(l, entry(k, i+3))
	}
	return l
}

func put(key string) api.Record { return api.Record{Kind: api.LeafPut, Key: key} }

func del(key string) api.Record { return api.Record{Kind: api.LeafDel, Key: key} }

func remove() api.Record { return api.Record{Kind: api.LeafRemove} }

func entryPut(key string, n int) api.Record {
	return api.Record{Kind: api.InnerPut, Key: key, Page: n}
}

func held(n, left int, key string) api.Record {
	return api.Record{Kind: api.InnerHold, Hold: hold(n, left, key)}
}

func drop() api.Record { return api.Record{Kind: api.InnerDrop} }

// leafBase is a LeafBase from low up to high, with page 7 to the right.
func leafBase(low, high, keys string) api.Record {
	return api.Record{Kind: api.LeafBase, Low: low, High: high, Right: 7, Rows: list(keys)}
}

// leafOpen is a LeafBase from low on.
func leafOpen(low, keys string) api.Record {
	return api.Record{Kind: api.LeafBase, Low: low, Unbounded: true, Rows: list(keys)}
}

// innerBase is an InnerBase from low up to high, with page 8 to the right.
func innerBase(low, high, keys string) api.Record {
	return api.Record{Kind: api.InnerBase, Low: low, High: high, Right: 8, Entries: entries(low, keys)}
}

// innerOpen is an InnerBase from low on.
func innerOpen(low, keys string) api.Record {
	return api.Record{Kind: api.InnerBase, Low: low, Unbounded: true, Entries: entries(low, keys)}
}

// of is a page with records in the order in which they came, which must be valid.
func of(t *testing.T, n int, records ...api.Record) page.Page {
	t.Helper()
	chain := slices.Clone(records)
	slices.Reverse(chain)
	p, err := page.Of(n, ref(9, 1), chain, nil)
	if err != nil {
		t.Fatalf("Of %+v: %v", chain, err)
	}
	return p
}

// below is an inner page as the page above.
func below(p page.Page) plan.Above {
	return plan.Above{Some: true, N: p.N, Head: p.Head, View: p.Inner}
}

// wide are limits which no page of these tests exceeds.
func wide() api.Limits {
	return api.Limits{Slots: 99, Pages: 99, Threads: 1, Rows: 64, Chain: 64, Count: 99}
}

// within are limits for rows and for records.
func within(rows, chain int) api.Limits {
	l := wide()
	l.Rows, l.Chain = rows, chain
	return l
}

func down(n int) plan.Plan { return plan.Plan{Kind: plan.Down, To: n} }

func across(n int) plan.Plan { return plan.Plan{Kind: plan.Across, To: n} }

func post(key string, n int) plan.Plan { return plan.Plan{Kind: plan.Post, Entry: entry(key, n)} }

func help(n, left int, key string) plan.Plan {
	return plan.Plan{Kind: plan.Help, Hold: hold(n, left, key)}
}

func holds(n, left int, key string) plan.Plan {
	return plan.Plan{Kind: plan.Hold, Hold: hold(n, left, key)}
}

// only is a plan of a kind that has nothing else.
func only(kind int) plan.Plan { return plan.Plan{Kind: kind} }

// tells asks that a plan is the one that is wanted.
func tells(t *testing.T, name string, got, want plan.Plan) {
	t.Helper()
	if got != want {
		t.Errorf("%s: %s %+v, not %s %+v", name, plan.Name(got.Kind), got, plan.Name(want.Kind), want)
	}
}

// decides asks what a thread that writes has to do, within wide limits.
func decides(t *testing.T, name string, p page.Page, above plan.Above, key string, want plan.Plan) {
	t.Helper()
	tells(t, name, plan.Decide(p, above, key, wide(), true), want)
}

// reads asks what a thread that only reads has to do, whatever the limits are.
func reads(t *testing.T, name string, p page.Page, above plan.Above, key string, want plan.Plan) {
	t.Helper()
	for _, l := range []api.Limits{wide(), {}, within(0, 0), within(1, 1), within(math.MinInt, math.MinInt)} {
		tells(t, name, plan.Decide(p, above, key, l, false), want)
	}
}

// root is page 1, with an entry of "" and entries of b, f and m.
func root(t *testing.T, changes ...api.Record) plan.Above {
	t.Helper()
	return below(of(t, 1, append([]api.Record{innerOpen("", "b f m")}, changes...)...))
}

// P11.2, Name, and the kinds.

func TestKindsAndNames(t *testing.T) {
	kinds := []int{plan.Down, plan.Across, plan.Again, plan.Post, plan.Help, plan.Tidy, plan.Split, plan.Grow, plan.Hold, plan.Act}
	names := strings.Fields("down across again post help tidy split grow hold act")
	for i, k := range kinds {
		if k != i+1 || plan.Name(k) != names[i] {
			t.Errorf("kind %d of %s is %d, and its name %q", i+1, names[i], k, plan.Name(k))
		}
	}
	for _, k := range []int{0, -1, 11, 12, 255, 256, 257, 1 << 32, 1<<32 + 1, math.MinInt, math.MinInt + 1, math.MaxInt} {
		if plan.Name(k) != "" {
			t.Errorf("the name of %d is %q", k, plan.Name(k))
		}
	}
}

// P11.1, rule by rule.

func TestDecideAtALeafThatIsGone(t *testing.T) {
	for _, keys := range []string{"", "c", "c d e"} {
		p := of(t, 3, leafBase("b", "f", keys), remove())
		for _, key := range []string{"", "a", "b", "c", "ezz", "f", "z"} {
			for _, above := range []plan.Above{{}, root(t), root(t, held(3, 2, "b"))} {
				decides(t, "writing", p, above, key, only(plan.Again))
				reads(t, "reading", p, above, key, only(plan.Again))
				tells(t, "narrow limits", plan.Decide(p, above, key, within(0, 0), true), only(plan.Again))
			}
		}
	}
}

func TestDecideAtAnInnerPageThatIsHeld(t *testing.T) {
	p := of(t, 3, innerBase("b", "m", "d f"), held(3, 2, "d"))
	for _, key := range []string{"", "a", "b", "d", "f", "m", "z"} {
		for _, above := range []plan.Above{{}, root(t), root(t, held(3, 2, "b"))} {
			decides(t, "writing", p, above, key, help(3, 2, "d"))
			tells(t, "narrow limits", plan.Decide(p, above, key, within(0, 0), true), help(3, 2, "d"))
		}
	}
	for key, want := range map[string]plan.Plan{"a": only(plan.Again), "b": down(2), "c": down(2), "d": down(3), "e": down(3), "f": down(4), "m": across(8), "z": across(8)} {
		reads(t, "reading at "+key, p, root(t), key, want)
	}
	dropped := of(t, 3, innerBase("b", "m", "d f"), held(3, 2, "d"), drop())
	decides(t, "after the drop", dropped, root(t), "e", down(2))
}

func TestDecideBeforeLow(t *testing.T) {
	for _, r := range []api.Record{leafBase("b", "f", ""), leafBase("b", "f", "c d"), leafOpen("b", "c"), innerBase("b", "f", "c"), innerOpen("b", "c")} {
		p := of(t, 3, r)
		for _, key := range []string{"", "\x00", "a", "a\xff\xff", "B"} {
			for _, above := range []plan.Above{{}, root(t), root(t, held(3, 2, "b"))} {
				decides(t, "writing", p, above, key, only(plan.Again))
				reads(t, "reading", p, above, key, only(plan.Again))
				tells(t, "narrow limits", plan.Decide(p, above, key, within(0, 0), true), only(plan.Again))
			}
		}
	}
	decides(t, "bytes, not runes", of(t, 3, leafOpen("\x80", "")), root(t), "\x7f", only(plan.Again))
	decides(t, "bytes, not letters", of(t, 3, leafOpen("\xc3", "")), root(t), "z", only(plan.Again))
}

func TestDecideBeyondHigh(t *testing.T) {
	whole := below(of(t, 1, innerBase("b", "k", "d f")))
	for _, c := range []struct {
		name  string
		high  string
		above plan.Above
		post  bool
	}{
		{"between the entries", "c", root(t), true},
		{"behind the entries", "p", root(t), true},
		{"right behind an entry", "b\x00", root(t), true},
		{"right before an entry", "ezzz", root(t), true},
		{"an entry", "b", root(t), false},
		{"the last entry", "m", root(t), false},
		{"an entry that was put", "p", root(t, entryPut("p", 5)), false},
		{"an entry of the same page with another key", "p", root(t, entryPut("q", 7)), true},
		{"an entry that was dropped", "b", root(t, held(3, 2, "b"), drop()), true},
		{"no page above", "c", plan.Above{}, false},
		{"no page above, but a view", "c", plan.Above{N: 1, Head: ref(9, 1), View: root(t).View}, false},
		{"a page above that is held", "c", root(t, held(3, 2, "b")), false},
		{"a page above that is held for another page", "c", root(t, held(5, 4, "m")), false},
		{"in a span", "c", whole, true},
		{"right before the end of a span", "jz", whole, true},
		{"the end of a span", "k", whole, false},
		{"right behind the end of a span", "k\x00", whole, false},
		{"beyond a span", "p", whole, false},
		{"the beginning of a span", "b", whole, false}, // its first entry has this key
		{"before a span", "a", whole, false},
		{"an entry that a split took away", "f", root(t, api.Record{Kind: api.InnerSplit, Key: "f", Page: 9}), false},
		{"behind a split", "g", root(t, api.Record{Kind: api.InnerSplit, Key: "f", Page: 9}), false},
		{"before a split", "e", root(t, api.Record{Kind: api.InnerSplit, Key: "f", Page: 9}), true},
	} {
		beyond(t, c.name+": a leaf", of(t, 3, leafBase("", c.high+"\x00", ""), api.Record{Kind: api.LeafSplit, Key: c.high, Page: 7}), c.above, c.post)
		beyond(t, c.name+": an inner page", of(t, 3, innerBase("", c.high, "")), c.above, c.post)
	}
}

// beyond asks what has to be done at a page for a key at its High, and for greater ones.
func beyond(t *testing.T, name string, p page.Page, above plan.Above, posts bool) {
	t.Helper()
	_, high, _, right := p.Bounds()
	want := across(right)
	if posts {
		want = post(high, right)
	}
	for _, key := range []string{high, high + "\x00", high + "z", "zz", "\xff\xff"} {
		decides(t, name, p, above, key, want)
		tells(t, name+", narrow limits", plan.Decide(p, above, key, within(0, 0), true), want)
		reads(t, name+", reading", p, above, key, across(right))
	}
}

// A page's High matters, whatever the key is: the key need not lie in the span of the page above.
func TestPostIsOfHighNotOfTheKey(t *testing.T) {
	p := of(t, 3, leafBase("b", "d", "b c"))
	bounded := below(of(t, 1, innerBase("", "f", "b")))
	decides(t, "the key lies beyond the page above", p, bounded, "x", post("d", 7))
	decides(t, "the key has an entry", p, below(of(t, 1, innerOpen("", "b f"))), "f", post("d", 7))
	decides(t, "the key has none, but High has one", p, below(of(t, 1, innerOpen("", "b d"))), "f", across(7))
}

func TestDecideTidy(t *testing.T) {
	for _, n := range []int{0, 1, 3, 255, -1, math.MinInt, math.MaxInt} {
		chain := []api.Record{leafBase("b", "m", "b c")}
		other := []api.Record{innerBase("b", "m", "c")}
		for records := 1; records < 6; records++ {
			for limit := range 8 {
				want, down := only(plan.Act), down(3)
				if records > limit {
					want, down = only(plan.Tidy), only(plan.Tidy)
				}
				name := strconv.Itoa(records) + " records, and at most " + strconv.Itoa(limit)
				tells(t, name, plan.Decide(of(t, n, chain...), root(t), "c", within(64, limit), true), want)
				tells(t, name, plan.Decide(of(t, n, other...), root(t), "c", within(64, limit), true), down)
			}
			reads(t, "reading", of(t, n, chain...), root(t), "c", only(plan.Act))
			reads(t, "reading", of(t, n, other...), root(t), "c", down(3))
			chain = append(chain, put("d"))
			other = append(other, entryPut(strings.Repeat("d", records), 9))
		}
	}
}

func TestDecideTidyBeforeWhatIsToBeSplitOrHeld(t *testing.T) {
	many := []api.Record{leafBase("b", "m", "b c d"), put("e"), put("f")}
	broad := []api.Record{innerBase("b", "m", "c d"), entryPut("e", 8), entryPut("f", 9)}
	none := []api.Record{leafBase("b", "m", "b"), del("c"), del("b")}
	for _, n := range []int{0, 3} {
		for _, records := range [][]api.Record{many, broad, none} {
			tells(t, "a long chain", plan.Decide(of(t, n, records...), root(t), "c", within(2, 2), true), only(plan.Tidy))
		}
	}
	tells(t, "rows", plan.Decide(of(t, 3, many...), root(t), "c", within(2, 3), true), only(plan.Split))
	tells(t, "entries", plan.Decide(of(t, 3, broad...), root(t), "c", within(2, 3), true), only(plan.Split))
	tells(t, "no rows", plan.Decide(of(t, 3, none...), root(t), "c", within(2, 3), true), holds(3, 2, "b"))
}

func TestDecideSplitAndGrow(t *testing.T) {
	keys := []string{"", "b", "b c", "b c d", "b c d e", "b c d e f"}
	for _, n := range []int{0, 1, 3, 255, -1, math.MinInt, math.MaxInt} {
		full := only(plan.Split)
		if n == 0 {
			full = only(plan.Grow)
		}
		for size := 1; size < len(keys); size++ {
			rows := of(t, n, leafBase("b", "m", keys[size]))
			whole := of(t, n, innerOpen("", keys[size-1]))
			for limit := range 7 {
				act, child := only(plan.Act), down(2)
				if size > limit {
					act, child = full, full
				}
				name := "page " + strconv.Itoa(n) + " of " + strconv.Itoa(size) + ", and at most " + strconv.Itoa(limit)
				tells(t, name, plan.Decide(rows, plan.Above{}, "b", within(limit, 64), true), act)
				tells(t, name, plan.Decide(whole, plan.Above{}, "a", within(limit, 64), true), child)
			}
			reads(t, "reading", rows, root(t), "b", only(plan.Act))
			reads(t, "reading", whole, root(t), "a", down(2))
		}
	}
}

func TestDecideCountsTheView(t *testing.T) {
	p := of(t, 3, leafBase("b", "m", "b c"), put("d"), put("c"), del("b"))
	tells(t, "two rows", plan.Decide(p, root(t), "c", within(2, 64), true), only(plan.Act))
	tells(t, "two rows", plan.Decide(p, root(t), "c", within(1, 64), true), only(plan.Split))
	p = of(t, 3, innerOpen("", "b c"), entryPut("d", 9), held(3, 2, "b"), drop())
	tells(t, "three entries", plan.Decide(p, root(t), "c", within(3, 64), true), down(4))
	tells(t, "three entries", plan.Decide(p, root(t), "c", within(2, 64), true), only(plan.Split))
}

func TestExample1(t *testing.T) {
	for _, above := range []plan.Above{{}, root(t)} {
		tells(t, "page 0", plan.Decide(of(t, 0, leafOpen("", "a b c d e")), above, "c", within(4, 64), true), only(plan.Grow))
		tells(t, "page 3", plan.Decide(of(t, 3, leafOpen("", "a b c d e")), above, "c", within(4, 64), true), only(plan.Split))
	}
}

func TestDecideHold(t *testing.T) {
	twice := below(of(t, 1, innerOpen("", "b f"), entryPut("m", 3)))
	first := below(of(t, 1, innerOpen("", "b"), entryPut("m", 2)))
	for _, c := range []struct {
		name  string
		n     int
		above plan.Above
		want  plan.Plan
	}{
		{"the second entry", 3, root(t), holds(3, 2, "b")},
		{"the third entry", 4, root(t), holds(4, 3, "f")},
		{"the last entry", 5, root(t), holds(5, 4, "m")},
		{"the first entry", 2, root(t), only(plan.Act)},
		{"no entry", 6, root(t), only(plan.Act)},
		{"the page above itself", 1, root(t), only(plan.Act)},
		{"page 0", 0, root(t), only(plan.Act)},
		{"a page that there is not", -1, root(t), only(plan.Act)},
		{"an entry that was put", 9, root(t, entryPut("h", 9)), holds(9, 4, "h")},
		{"after an entry that was put", 5, root(t, entryPut("h", 9)), holds(5, 9, "m")},
		{"an entry that was dropped", 3, root(t, held(3, 2, "b"), drop()), only(plan.Act)},
		{"after an entry that was dropped", 4, root(t, held(3, 2, "b"), drop()), holds(4, 2, "f")},
		{"two entries", 3, twice, holds(3, 2, "b")},
		{"two entries, one of them the first", 2, first, holds(2, 3, "m")},
		{"a page above that is held", 3, root(t, held(3, 2, "b")), only(plan.Act)},
		{"a page above that is held for another page", 3, root(t, held(5, 4, "m")), only(plan.Act)},
		{"no page above", 3, plan.Above{}, only(plan.Act)},
		{"no page above, but a view", 3, plan.Above{N: 1, Head: ref(9, 1), View: root(t).View}, only(plan.Act)},
	} {
		for _, p := range []page.Page{of(t, c.n, leafBase("b", "f", "")), of(t, c.n, leafOpen("", "d"), del("d"))} {
			decides(t, c.name, p, c.above, "c", c.want)
			tells(t, c.name, plan.Decide(p, c.above, "c", within(0, 2), true), c.want)
			reads(t, c.name+", reading", p, c.above, "c", only(plan.Act))
		}
		decides(t, c.name+", with a row", of(t, c.n, leafBase("b", "f", "d")), c.above, "c", only(plan.Act))
		decides(t, c.name+", with a row that was put", of(t, c.n, leafBase("b", "f", ""), put("d")), c.above, "c", only(plan.Act))
		decides(t, c.name+", an inner page", of(t, c.n, innerBase("b", "f", "")), c.above, "c", down(2))
	}
}

func TestDecideDown(t *testing.T) {
	p := of(t, 0, innerBase("b", "m", "d f"), entryPut("ee", 9))
	for key, want := range map[string]int{"b": 2, "b\x00": 2, "c\xff": 2, "d": 3, "d\x00": 3, "e": 3, "ed\xff": 3, "ee": 9, "eez": 9, "f": 4, "g": 4, "l\xff\xff": 4} {
		for _, above := range []plan.Above{{}, root(t), root(t, held(3, 2, "b"))} {
			decides(t, "writing at "+key, p, above, key, down(want))
			reads(t, "reading at "+key, p, above, key, down(want))
		}
	}
	all := of(t, 0, innerOpen("", "d"))
	for key, want := range map[string]int{"": 2, "\x00": 2, "c": 2, "d": 3, "\xff\xff": 3, strings.Repeat("c", 99): 2, strings.Repeat("d", 99): 3} {
		decides(t, "writing at "+key, all, plan.Above{}, key, down(want))
		reads(t, "reading at "+key, all, plan.Above{}, key, down(want))
	}
	odd := of(t, 0, api.Record{Kind: api.InnerBase, Unbounded: true, Entries: []api.Entry{entry("", -1), entry("d", math.MaxInt), entry("f", 0)}})
	for key, want := range map[string]int{"c": -1, "d": math.MaxInt, "f": 0} {
		decides(t, "pages that there are not", odd, plan.Above{}, key, down(want))
	}
}

func TestDecideAct(t *testing.T) {
	for _, p := range []page.Page{of(t, 3, leafBase("b", "m", "b c")), of(t, 0, leafBase("b", "m", "b")), of(t, 3, leafBase("b", "m", "b"), put("k"))} {
		for _, key := range []string{"b", "b\x00", "c", "l\xff\xff", strings.Repeat("c", 99)} {
			for _, above := range []plan.Above{{}, root(t), root(t, held(3, 2, "b"))} {
				decides(t, "writing", p, above, key, only(plan.Act))
				reads(t, "reading", p, above, key, only(plan.Act))
			}
		}
	}
}

// P11.2, Back, rule by rule.

// backs asks what has to be done on the way to the last page that has keys before high, by one who helps and by one who does not.
func backs(t *testing.T, name string, p page.Page, high string, unbounded bool, want plan.Plan) {
	t.Helper()
	tells(t, name, plan.Back(p, high, unbounded, false), want)
	tells(t, name+", helping", plan.Back(p, high, unbounded, true), want)
}

func TestBackAtALeafThatIsGone(t *testing.T) {
	for _, p := range []page.Page{of(t, 3, leafBase("b", "f", "c"), remove()), of(t, 3, leafOpen("b", ""), remove())} {
		for _, high := range []string{"", "a", "b", "c", "f", "z"} {
			backs(t, "up to "+high, p, high, false, only(plan.Again))
			backs(t, "of all", p, high, true, only(plan.Again))
		}
	}
}

func TestBackAtAnInnerPageThatIsHeld(t *testing.T) {
	p := of(t, 3, innerBase("b", "m", "d f"), held(3, 2, "d"))
	for _, high := range []string{"", "a", "b", "d", "e", "m", "z"} {
		tells(t, "up to "+high, plan.Back(p, high, false, true), help(3, 2, "d"))
		tells(t, "of all", plan.Back(p, high, true, true), help(3, 2, "d"))
	}
	for high, want := range map[string]plan.Plan{"a": only(plan.Again), "b": only(plan.Again), "c": down(2), "d": down(2), "e": down(3), "m": down(4), "z": across(8)} {
		tells(t, "without helping, up to "+high, plan.Back(p, high, false, false), want)
	}
	tells(t, "without helping, of all", plan.Back(p, "", true, false), across(8))
	backs(t, "after the drop", of(t, 3, innerBase("b", "m", "d f"), held(3, 2, "d"), drop()), "e", false, down(2))
}

func TestBackAcross(t *testing.T) {
	for _, c := range []struct {
		p     page.Page
		right int
		here  plan.Plan // for a High that is the page's own
	}{
		{of(t, 3, leafBase("b", "m", "b c")), 7, only(plan.Act)},
		{of(t, 3, leafBase("b", "m", "")), 7, only(plan.Act)},
		{of(t, 3, leafOpen("b", ""), api.Record{Kind: api.LeafSplit, Key: "m", Page: -4}), -4, only(plan.Act)},
		{of(t, 3, innerBase("b", "m", "d f")), 8, down(4)},
		{of(t, 3, innerBase("b", "m", "")), 8, down(2)},
	} {
		for _, high := range []string{"m\x00", "mm", "n", "z", "\xff\xff", strings.Repeat("z", 99)} {
			backs(t, "beyond", c.p, high, false, across(c.right))
		}
		for _, high := range []string{"", "a", "b", "c", "m", "z"} {
			backs(t, "of all", c.p, high, true, across(c.right))
		}
		backs(t, "at the High", c.p, "m", false, c.here)
		backs(t, "right before the High", c.p, "l\xff\xff", false, c.here)
	}
	backs(t, "bytes, not runes", of(t, 3, leafBase("b", "\x7f", "")), "\x80", false, across(7))
	backs(t, "an empty High", page.Page{Leaf: true, Rows: leaf.View{Right: 5}}, "\x00", false, across(5))
}

func TestBackAct(t *testing.T) {
	for _, high := range []string{"", "a", "b", "c", "m"} {
		backs(t, "up to "+high, of(t, 3, leafBase("b", "m", "b c")), high, false, only(plan.Act))
		backs(t, "up to "+high, of(t, 0, leafOpen("b", "b c")), high, false, only(plan.Act))
	}
	for _, high := range []string{"", "a", "n", "\xff\xff"} {
		backs(t, "unbounded", of(t, 3, leafOpen("b", "")), high, false, only(plan.Act))
		backs(t, "of all", of(t, 3, leafOpen("b", "")), high, true, only(plan.Act))
	}
}

func TestBackDown(t *testing.T) {
	p := of(t, 0, innerOpen("b", "d f"), entryPut("ee", 9))
	for high, want := range map[string]int{"b\x00": 2, "c": 2, "d": 2, "d\x00": 3, "e": 3, "ee": 3, "ee\x00": 9, "f": 9, "f\x00": 4, "g": 4, "\xff\xff": 4} {
		backs(t, "up to "+high, p, high, false, down(want))
		backs(t, "of all", p, high, true, down(4))
	}
	for _, high := range []string{"", "a", "a\xff\xff", "b"} {
		backs(t, "no key up to "+high, p, high, false, only(plan.Again))
		backs(t, "no key up to "+high, of(t, 0, innerBase("b", "m", "")), high, false, only(plan.Again))
		backs(t, "of all", p, high, true, down(4))
	}
	backs(t, "one entry", of(t, 0, innerOpen("", "")), "\x00", false, down(2))
	backs(t, "nothing before it", of(t, 0, innerOpen("", "")), "", false, only(plan.Again))
	backs(t, "one entry, of all", of(t, 0, innerOpen("", "")), "", true, down(2))
}

// All rules together, over all combinations of a few pages, keys and limits.

// rule is a plan, and whether it applies.
type rule struct {
	applies bool
	plan    plan.Plan
}

// first is the plan of the first rule that applies.
func first(rules ...rule) plan.Plan {
	for _, r := range rules {
		if r.applies {
			return r.plan
		}
	}
	return plan.Plan{}
}

// span is what a page is asked for, of either kind of view.
type span struct {
	low, high string
	unbounded bool
	right     int
	size      int
}

// spanOf is the span and the size of a page.
func spanOf(p page.Page) span {
	if p.Leaf {
		return span{p.Rows.Low, p.Rows.High, p.Rows.Unbounded, p.Rows.Right, len(p.Rows.Rows)}
	}
	return span{p.Inner.Low, p.Inner.High, p.Inner.Unbounded, p.Inner.Right, len(p.Inner.Entries)}
}

func (s span) has(key string) bool {
	return strings.Compare(s.low, key) <= 0 && (s.unbounded || strings.Compare(key, s.high) < 0)
}

// lastBefore is the page of the last entry of a view for whose key a condition holds.
func lastBefore(v inner.View, holds func(key string) bool) (int, bool) {
	n, some := 0, false
	for _, e := range v.Entries {
		if holds(e.Key) {
			n, some = e.Page, true
		}
	}
	return n, some
}

// merges is the hold that merges a page into the one before it, for the first of its entries that is not the first one of all.
func merges(v inner.View, n int) (api.Hold, bool) {
	for i := 1; i < len(v.Entries); i++ {
		if v.Entries[i].Page == n {
			return hold(n, v.Entries[i-1].Page, v.Entries[i].Key), true
		}
	}
	return api.Hold{}, false
}

// chapter is what P11.1 says.
func chapter(p page.Page, above plan.Above, key string, l api.Limits, writes bool) plan.Plan {
	s, up := spanOf(p), above.View
	in := span{low: up.Low, high: up.High, unbounded: up.Unbounded}
	free := above.Some && !up.Held
	exact := slices.ContainsFunc(up.Entries, func(e api.Entry) bool { return e.Key == s.high })
	h, merged := merges(up, p.N)
	child, _ := lastBefore(p.Inner, func(k string) bool { return k <= key })
	return first(
		rule{p.Leaf && p.Rows.Gone, only(plan.Again)},
		rule{writes && !p.Leaf && p.Inner.Held, plan.Plan{Kind: plan.Help, Hold: p.Inner.Hold}},
		rule{!s.has(key) && strings.Compare(key, s.low) < 0, only(plan.Again)},
		rule{!s.has(key) && writes && free && in.has(s.high) && !exact, post(s.high, s.right)},
		rule{!s.has(key), across(s.right)},
		rule{writes && len(p.Chain) > l.Chain, only(plan.Tidy)},
		rule{writes && s.size > l.Rows && p.N == 0, only(plan.Grow)},
		rule{writes && s.size > l.Rows, only(plan.Split)},
		rule{writes && p.Leaf && s.size == 0 && free && merged, plan.Plan{Kind: plan.Hold, Hold: h}},
		rule{p.Leaf, only(plan.Act)},
		rule{true, down(child)},
	)
}

// chapterBack is what P11.2 says.
func chapterBack(p page.Page, high string, unbounded, helps bool) plan.Plan {
	s := spanOf(p)
	last, some := lastBefore(p.Inner, func(k string) bool { return unbounded || strings.Compare(k, high) < 0 })
	return first(
		rule{p.Leaf && p.Rows.Gone, only(plan.Again)},
		rule{helps && !p.Leaf && p.Inner.Held, plan.Plan{Kind: plan.Help, Hold: p.Inner.Hold}},
		rule{!s.unbounded && (unbounded || strings.Compare(s.high, high) < 0), across(s.right)},
		rule{p.Leaf, only(plan.Act)},
		rule{some, down(last)},
		rule{true, only(plan.Again)},
	)
}

// pages are leaves and inner pages of some spans, with some rows and entries, and some changes.
func pages(t *testing.T) []page.Page {
	t.Helper()
	var l []page.Page
	for _, n := range []int{0, 3} {
		for _, low := range []string{"", "b"} {
			for _, base := range []api.Record{leafBase(low, "d", ""), leafBase(low, "d", "b c"), leafOpen(low, ""), leafOpen(low, "b c d")} {
				l = append(l, of(t, n, base), of(t, n, base, del("c")), of(t, n, base, del("c"), put("b")), of(t, n, base, remove()))
			}
			for _, base := range []api.Record{innerBase(low, "d", ""), innerOpen(low, "")} {
				l = append(l, of(t, n, base))
			}
			for _, base := range []api.Record{innerBase(low, "d", "c"), innerOpen(low, "c cc")} {
				l = append(l, of(t, n, base), of(t, n, base, entryPut("bb", 9)), of(t, n, base, held(3, 2, "c")), of(t, n, base, held(3, 2, "c"), drop()))
			}
		}
	}
	return l
}

// aboves are pages above those, and none.
func aboves(t *testing.T) []plan.Above {
	t.Helper()
	l := []plan.Above{{}, {View: root(t).View}}
	for _, base := range []api.Record{innerOpen("", ""), innerOpen("", "b"), innerOpen("", "b d"), innerBase("", "d", "b"), innerBase("b", "e", "c"), innerOpen("c", "cc")} {
		l = append(l, below(of(t, 1, base)))
	}
	return append(l, root(t, held(3, 2, "b")), root(t, held(3, 2, "b"), drop()))
}

// everyDecision calls for all combinations of pages, pages above, keys, limits, and whether the thread writes.
func everyDecision(t *testing.T, call func(p page.Page, above plan.Above, key string, l api.Limits, writes bool)) {
	t.Helper()
	for _, p := range pages(t) {
		for _, above := range aboves(t) {
			for _, key := range []string{"", "a", "b", "bb", "c", "d", "e"} {
				for _, l := range []api.Limits{wide(), within(-1, 1), within(0, 1), within(1, 1), within(1, 2), within(2, 1), within(2, 2), within(3, 3), within(3, -1)} {
					call(p, above, key, l, true)
					call(p, above, key, l, false)
				}
			}
		}
	}
}

// everyWayBack calls for all combinations of pages, bounds, and whether the thread helps.
func everyWayBack(t *testing.T, call func(p page.Page, high string, unbounded, helps bool)) {
	t.Helper()
	for _, p := range pages(t) {
		for _, high := range []string{"", "a", "b", "bb", "bbb", "c", "cc", "d", "e"} {
			for _, unbounded := range []bool{false, true} {
				call(p, high, unbounded, true)
				call(p, high, unbounded, false)
			}
		}
	}
}

// told counts plans by their kinds.
type told [plan.Act + 1]int

// all asks that each of some kinds was counted, and no other one.
func (c told) all(t *testing.T, name string, kinds ...int) {
	t.Helper()
	for k, n := range c {
		if (n > 0) != slices.Contains(kinds, k) {
			t.Errorf("%s: %q was told %d times", name, plan.Name(k), n)
		}
	}
}

func TestDecideEverywhere(t *testing.T) {
	var kinds told
	everyDecision(t, func(p page.Page, above plan.Above, key string, l api.Limits, writes bool) {
		got, want := plan.Decide(p, above, key, l, writes), chapter(p, above, key, l, writes)
		kinds[got.Kind]++
		if got != want {
			t.Fatalf("Decide(%+v, %+v, %q, %+v, %v) is %+v, not %+v", p, above, key, l, writes, got, want)
		}
	})
	kinds.all(t, "Decide", plan.Down, plan.Across, plan.Again, plan.Post, plan.Help, plan.Tidy, plan.Split, plan.Grow, plan.Hold, plan.Act)
}

func TestBackEverywhere(t *testing.T) {
	var kinds told
	everyWayBack(t, func(p page.Page, high string, unbounded, helps bool) {
		got, want := plan.Back(p, high, unbounded, helps), chapterBack(p, high, unbounded, helps)
		kinds[got.Kind]++
		if got != want {
			t.Fatalf("Back(%+v, %q, %v, %v) is %+v, not %+v", p, high, unbounded, helps, got, want)
		}
	})
	kinds.all(t, "Back", plan.Down, plan.Across, plan.Again, plan.Help, plan.Act)
}

// P11.3.

func TestWhoReadsChangesNothing(t *testing.T) {
	var kinds told
	everyDecision(t, func(p page.Page, above plan.Above, key string, l api.Limits, writes bool) {
		if !writes {
			kinds[plan.Decide(p, above, key, l, false).Kind]++
		}
	})
	everyWayBack(t, func(p page.Page, high string, unbounded, helps bool) {
		if !helps {
			kinds[plan.Back(p, high, unbounded, false).Kind]++
		}
	})
	kinds.all(t, "reading", plan.Down, plan.Across, plan.Again, plan.Act)
}

// P11.4.

func TestWhoActsOrGoesDownIsAtAPageThatHasTheKey(t *testing.T) {
	everyDecision(t, func(p page.Page, above plan.Above, key string, l api.Limits, writes bool) {
		x := plan.Decide(p, above, key, l, writes)
		if x.Kind != plan.Act && x.Kind != plan.Down {
			return
		}
		if !p.Has(key) || p.Leaf != (x.Kind == plan.Act) || p.Leaf && p.Rows.Gone {
			t.Fatalf("%+v at %q: %s", p, key, plan.Name(x.Kind))
		}
		if child, err := p.Inner.Child(key); x.Kind == plan.Down && (err != nil || child.Page != x.To) {
			t.Fatalf("%+v at %q: down to %d, not to %+v", p, key, x.To, child)
		}
	})
}

func TestWhoActsOnTheWayBackHasPassedNoKeys(t *testing.T) {
	everyWayBack(t, func(p page.Page, high string, unbounded, helps bool) {
		x := plan.Back(p, high, unbounded, helps)
		_, end, endless, _ := p.Bounds()
		if (x.Kind == plan.Act || x.Kind == plan.Down) && !endless && (unbounded || end < high) {
			t.Fatalf("%+v, up to %q (%v): %s", p, high, unbounded, plan.Name(x.Kind))
		}
	})
}

// Walks over a whole tree.

// forest has the chain of each page, the newest record first.
type forest map[int][]api.Record

// upper is an InnerBase from low up to high, or on if high is "".
func upper(low, high string, right int, l ...api.Entry) api.Record {
	return api.Record{Kind: api.InnerBase, Low: low, High: high, Unbounded: high == "", Right: right, Entries: l}
}

// lower is a LeafBase of one row, as leaves without rows are held.
func lower(low, high string, right int) api.Record {
	return api.Record{Kind: api.LeafBase, Low: low, High: high, Unbounded: high == "", Right: right, Rows: list(low + "a")}
}

// grown is a tree of five leaves, of which the splits at f and at s, and the split of the inner page at m, have no entries above them yet.
func grown() forest {
	return forest{
		0: {upper("", "", 0, entry("", 1))},
		1: {upper("", "m", 2, entry("", 3), entry("d", 4))},
		2: {upper("m", "", 0, entry("m", 6))},
		3: {lower("", "d", 4)},
		4: {lower("d", "f", 5)},
		5: {lower("f", "m", 6)},
		6: {lower("m", "s", 7)},
		7: {lower("s", "", 0)},
	}
}

// at is a page of a forest.
func (f forest) at(t *testing.T, n int) page.Page {
	t.Helper()
	p, err := page.Of(n, ref(len(f[n]), 1), f[n], nil)
	if err != nil {
		t.Fatalf("page %d: %v", n, err)
	}
	return p
}

// on puts a record in front of a page.
func (f forest) on(n int, r api.Record) {
	f[n] = append([]api.Record{r}, f[n]...)
}

// walk is the page at which a thread acts that begins at page 0 and does as it is told, where only posts are changes; and how many of these there were.
func (f forest) walk(t *testing.T, decide func(p page.Page, above plan.Above) plan.Plan) (page.Page, int) {
	t.Helper()
	n, above, posts := 0, plan.Above{}, 0
	for range 30 {
		p := f.at(t, n)
		switch x := decide(p, above); x.Kind {
		case plan.Act:
			return p, posts
		case plan.Down:
			n, above = x.To, below(p)
		case plan.Across:
			n = x.To
		case plan.Post:
			f.on(above.N, entryPut(x.Entry.Key, x.Entry.Page))
			n, above, posts = 0, plan.Above{}, posts+1
		default:
			t.Fatalf("at page %d: %s", n, plan.Name(x.Kind))
		}
	}
	t.Fatal("the walk does not end")
	return page.Page{}, 0
}

// toKey is a walk to a key.
func (f forest) toKey(t *testing.T, key string, writes bool) (page.Page, int) {
	t.Helper()
	return f.walk(t, func(p page.Page, above plan.Above) plan.Plan {
		return plan.Decide(p, above, key, wide(), writes)
	})
}

// walkKeys are keys of all leaves, at their bounds and between them.
func walkKeys() []string {
	return strings.Fields("a c cz d e ez f g lz m n rz s t zz \xff")
}

func TestWalksToAKey(t *testing.T) {
	for _, key := range walkKeys() {
		f := grown()
		if p, posts := f.toKey(t, key, false); !p.Leaf || !p.Has(key) || posts != 0 {
			t.Errorf("reading at %q: page %d, and %d posts", key, p.N, posts)
		}
		if !reflect.DeepEqual(f, grown()) {
			t.Errorf("reading at %q: %+v", key, f)
		}
	}
	f := grown()
	for _, key := range walkKeys() {
		f.toKey(t, key, true)
		if p, posts := f.toKey(t, key, true); !p.Leaf || !p.Has(key) || posts != 0 {
			t.Errorf("writing again at %q: page %d, and %d posts", key, p.N, posts)
		}
	}
	want := grown()
	want.on(0, entryPut("m", 2))
	want.on(1, entryPut("f", 5))
	want.on(2, entryPut("s", 7))
	if !reflect.DeepEqual(f, want) {
		t.Errorf("after writing everywhere: %+v", f)
	}
}

func TestWalksBack(t *testing.T) {
	f := grown()
	for _, high := range walkKeys() {
		p, _ := f.walk(t, func(p page.Page, _ plan.Above) plan.Plan { return plan.Back(p, high, false, true) })
		low, end, endless, _ := p.Bounds()
		if !p.Leaf || low >= high || !endless && end < high {
			t.Errorf("up to %q: page %d", high, p.N)
		}
	}
	p, _ := f.walk(t, func(p page.Page, _ plan.Above) plan.Plan { return plan.Back(p, "", true, true) })
	if p.N != 7 {
		t.Errorf("of all: page %d", p.N)
	}
}

// Invalid inputs: pages and views that no chain has.

func TestPagesThatAreMadeByHand(t *testing.T) {
	decides(t, "a zero page", page.Page{}, root(t), "a", across(0)) // its High has an entry
	decides(t, "a zero leaf", page.Page{Leaf: true}, plan.Above{Some: true, View: inner.View{Unbounded: true}}, "", post("", 0))
	decides(t, "a zero page above", page.Page{Leaf: true}, plan.Above{Some: true}, "", across(0))
	backs(t, "a zero page", page.Page{}, "", false, only(plan.Again))
	backs(t, "a zero page", page.Page{}, "a", false, across(0))
	backs(t, "a zero leaf", page.Page{Leaf: true}, "", false, only(plan.Act))

	both := page.Page{
		N:     3,
		Rows:  leaf.View{Low: "b", High: "f", Right: 4, Rows: list("b c d"), Gone: true},
		Inner: inner.View{Low: "m", High: "p", Right: 5, Entries: entries("m", "n")},
	}
	decides(t, "an inner page with the rows of a leaf that is gone", both, root(t), "n", down(3))
	backs(t, "an inner page with the rows of a leaf that is gone", both, "p", false, down(3))
	both.Leaf, both.Rows.Gone, both.Inner.Held, both.Inner.Hold = true, false, true, hold(3, 2, "n")
	decides(t, "a leaf with the view of an inner page that is held", both, root(t), "c", only(plan.Act))
	backs(t, "a leaf with the view of an inner page that is held", both, "c", false, only(plan.Act))
	tells(t, "three rows", plan.Decide(both, root(t), "c", within(2, 64), true), only(plan.Split))

	none := page.Page{N: 3, Inner: inner.View{Unbounded: true}} // a leaf like this one would be held
	decides(t, "no entries", none, root(t), "c", down(0))
	reads(t, "no entries", none, root(t), "c", down(0))
	backs(t, "no entries", none, "c", false, only(plan.Again))
	backs(t, "no entries, of all", none, "", true, only(plan.Again))
	backs(t, "entries that fall", page.Page{Inner: inner.View{Unbounded: true, Entries: []api.Entry{entry("d", 2), entry("b", 3), entry("f", 4)}}}, "e", false, down(3))
	decides(t, "no rows below no entries", of(t, 3, leafOpen("", "")), plan.Above{Some: true, View: inner.View{Unbounded: true}}, "c", only(plan.Act))
}

func TestLimitsThatThereAreNot(t *testing.T) {
	empty, some := of(t, 3, leafOpen("", "")), of(t, 3, innerOpen("", "b"))
	for _, n := range []int{math.MinInt, -1} {
		tells(t, "a negative chain", plan.Decide(empty, root(t), "c", within(64, n), true), only(plan.Tidy))
		tells(t, "a negative number of rows", plan.Decide(empty, root(t), "c", within(n, 64), true), only(plan.Split))
		tells(t, "a negative number of entries", plan.Decide(some, root(t), "c", within(n, 64), true), only(plan.Split))
	}
	tells(t, "zero limits", plan.Decide(empty, root(t), "c", api.Limits{}, true), only(plan.Tidy))
	tells(t, "great limits", plan.Decide(some, root(t), "c", within(math.MaxInt, math.MaxInt), true), down(3))
	only64 := api.Limits{Rows: 64, Chain: 64}
	tells(t, "no other limits", plan.Decide(some, root(t), "c", only64, true), down(3))
}

// Arguments are neither changed nor retained.

// spare is a list with other elements in its spare capacity.
func spare[T any](l []T, rest T) []T {
	all := slices.Concat(l, []T{rest, rest})
	return all[:len(l)]
}

// roomy is a page whose lists have spare capacity.
func roomy(p page.Page) page.Page {
	p.Chain = spare(p.Chain, api.Record{Kind: -1})
	p.Refs = spare(p.Refs, ref(-1, -1))
	p.Rows.Rows = spare(p.Rows.Rows, api.Row{Key: "spare"})
	p.Inner.Entries = spare(p.Inner.Entries, entry("spare", -1))
	return p
}

// whole is a page with what is in the spare capacity of its lists.
func whole(p page.Page) page.Page {
	p.Chain, p.Refs = p.Chain[:cap(p.Chain)], p.Refs[:cap(p.Refs)]
	p.Rows.Rows, p.Inner.Entries = p.Rows.Rows[:cap(p.Rows.Rows)], p.Inner.Entries[:cap(p.Inner.Entries)]
	return p
}

// kept is a copy of a page with all that is in its lists.
func kept(p page.Page) page.Page {
	p = whole(p)
	p.Chain, p.Refs = slices.Clone(p.Chain), slices.Clone(p.Refs)
	p.Rows.Rows, p.Inner.Entries = slices.Clone(p.Rows.Rows), slices.Clone(p.Inner.Entries)
	return p
}

func TestArgumentsStayAsTheyAre(t *testing.T) {
	for _, p := range pages(t) {
		p = roomy(p)
		for _, above := range aboves(t) {
			up := roomy(page.Page{Inner: above.View})
			above.View = up.Inner
			here, there := kept(p), kept(up)
			for _, key := range []string{"", "b", "c", "d", "e"} {
				for _, l := range []api.Limits{wide(), within(0, 2), within(1, 1)} {
					plan.Decide(p, above, key, l, true)
					plan.Decide(p, above, key, l, false)
				}
				plan.Back(p, key, false, true)
				plan.Back(p, key, true, false)
			}
			if !reflect.DeepEqual(whole(p), here) || !reflect.DeepEqual(whole(up), there) {
				t.Fatalf("%+v and %+v were %+v and %+v", p, up, here, there)
			}
		}
	}
}

func TestPlansStayAsTheyAre(t *testing.T) {
	p, above := of(t, 3, leafOpen("", "")), root(t)
	x := plan.Decide(p, above, "c", wide(), true)
	above.View.Entries[1], above.View.Entries[0] = entry("x", 8), entry("w", 9)
	tells(t, "a hold", x, holds(3, 2, "b"))
	tells(t, "the page above was changed", plan.Decide(p, above, "c", wide(), true), only(plan.Act))
}
