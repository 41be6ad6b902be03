package commits_test

import (
	"errors"
	"math"
	"slices"
	"testing"

	"rowlock/api"
	"rowlock/commits"
)

// code is the code of an error, or 0.
func code(err error) api.Code {
	var c api.Code
	errors.As(err, &c)
	return c
}

// made is a new table.
func made(t *testing.T, threads, limit int) *commits.Table {
	t.Helper()
	x := commits.New(threads, limit)
	if x == nil {
		t.Fatalf("New(%d, %d) is nil", threads, limit)
	}
	return x
}

// set is writes that are told apart from others by a value.
func set(value string) []commits.Write {
	return []commits.Write{{Key: "a", Value: value}, {Key: "b", Gone: true}}
}

// filled is a table with so many commits, of which that of number n has the value n; the first ones, up to base, are in the tree below, and those up to dropped are dropped.
func filled(t *testing.T, threads, limit, last, base, dropped int) *commits.Table {
	t.Helper()
	x := made(t, threads, limit)
	for n := range last {
		appends(t, x, n, number(n+1))
	}
	for n := range base {
		advances(t, x, n)
	}
	trims(t, x, dropped, dropped)
	return x
}

// number is a commit number as a value.
func number(n int) string { return string(rune('0' + n)) }

// appends asks that an append succeeds.
func appends(t *testing.T, x *commits.Table, last int, value string) {
	t.Helper()
	if ok, err := x.Append(last, set(value)); !ok || err != nil {
		t.Fatalf("Append(%d): %v, %v", last, ok, err)
	}
}

// appendFails asks that an append does not.
func appendFails(t *testing.T, x *commits.Table, last int, l []commits.Write, want api.Code) {
	t.Helper()
	if ok, err := x.Append(last, l); ok || code(err) != want {
		t.Fatalf("Append(%d, %v): %v, %v, not %d", last, l, ok, err, want)
	}
}

// advances asks that the base is incremented.
func advances(t *testing.T, x *commits.Table, base int) {
	t.Helper()
	if ok, err := x.Advance(base); !ok || err != nil {
		t.Fatalf("Advance(%d): %v, %v", base, ok, err)
	}
}

// advanceFails asks that it is not.
func advanceFails(t *testing.T, x *commits.Table, base int, want api.Code) {
	t.Helper()
	if ok, err := x.Advance(base); ok || code(err) != want {
		t.Fatalf("Advance(%d): %v, %v, not %d", base, ok, err, want)
	}
}

// trims asks that Trim drops so many.
func trims(t *testing.T, x *commits.Table, n, want int) {
	t.Helper()
	if got := x.Trim(n); got != want {
		t.Fatalf("Trim(%d) is %d, not %d", n, got, want)
	}
}

// shows asks for the numbers of a table, and for its commits: "" for a dropped one.
func shows(t *testing.T, x *commits.Table, base int, values ...string) {
	t.Helper()
	if x.Last() != len(values) || x.Base() != base {
		t.Fatalf("Last is %d, Base is %d, not %d, %d", x.Last(), x.Base(), len(values), base)
	}
	kept := 0
	for i, v := range values {
		l, err := x.At(i + 1)
		if v == "" {
			if len(l) != 0 || code(err) != api.ErrNone {
				t.Fatalf("At(%d) of a dropped one is %v, %v", i+1, l, err)
			}
			continue
		}
		kept++
		if !slices.Equal(l, set(v)) || err != nil {
			t.Fatalf("At(%d) is %v, %v, not %v", i+1, l, err, set(v))
		}
	}
	if x.Count() != kept {
		t.Fatalf("Count is %d, not %d", x.Count(), kept)
	}
	for _, n := range []int{0, -1, math.MinInt, len(values) + 1, math.MaxInt} {
		if l, err := x.At(n); len(l) != 0 || code(err) != api.ErrArg {
			t.Fatalf("At(%d) is %v, %v", n, l, err)
		}
	}
}

// mark asks that a thread can be marked.
func mark(t *testing.T, x *commits.Table, thread, n int) {
	t.Helper()
	if err := x.Mark(thread, n); err != nil {
		t.Fatalf("Mark(%d, %d): %v", thread, n, err)
	}
}

// marked asks for the marks of the first threads.
func marked(t *testing.T, x *commits.Table, marks ...int) {
	t.Helper()
	for thread, want := range marks {
		if n, err := x.Marked(thread); n != want || err != nil {
			t.Fatalf("Marked(%d) is %d, %v, not %d", thread, n, err, want)
		}
	}
}

// grab asks what comes of a thread's Grab.
func grab(t *testing.T, x *commits.Table, thread int, want bool) {
	t.Helper()
	if ok, err := x.Grab(thread); ok != want || err != nil {
		t.Fatalf("Grab(%d) is %v, %v", thread, ok, err)
	}
}

// yield asks what comes of a thread's Yield.
func yield(t *testing.T, x *commits.Table, thread int, want bool) {
	t.Helper()
	if ok, err := x.Yield(thread); ok != want || err != nil {
		t.Fatalf("Yield(%d) is %v, %v", thread, ok, err)
	}
}

// noThread asks that there is no such thread.
func noThread(t *testing.T, x *commits.Table, thread int) {
	t.Helper()
	for _, n := range []int{-1, 0, 7} {
		if err := x.Mark(thread, n); code(err) != api.ErrArg {
			t.Errorf("Mark(%d, %d): %v", thread, n, err)
		}
	}
	if n, err := x.Marked(thread); n != -1 || code(err) != api.ErrArg {
		t.Errorf("Marked(%d) is %d, %v", thread, n, err)
	}
	if ok, err := x.Grab(thread); ok || code(err) != api.ErrArg {
		t.Errorf("Grab(%d) is %v, %v", thread, ok, err)
	}
	if ok, err := x.Yield(thread); ok || code(err) != api.ErrArg {
		t.Errorf("Yield(%d) is %v, %v", thread, ok, err)
	}
}

// P16.1, New, Last and Base.

func TestNew(t *testing.T) {
	for _, c := range []struct {
		threads, limit int
		want           bool
	}{
		{1, 1, true},
		{2, 9, true},
		{64, 1 << 40, true},
		{64, 1, true},
		{1, 1 << 40, true},
		{0, 1, false},
		{1, 0, false},
		{0, 0, false},
		{-1, 1, false},
		{1, -1, false},
		{65, 1, false},
		{65, 1 << 40, false},
		{1, 1<<40 + 1, false},
		{math.MinInt, 1, false},
		{1, math.MinInt, false},
		{math.MaxInt, 1, false},
		{1, math.MaxInt, false},
	} {
		if x := commits.New(c.threads, c.limit); (x != nil) != c.want {
			t.Errorf("New(%d, %d) is %v", c.threads, c.limit, x)
		}
	}
}

func TestANewTableIsInItsInitialState(t *testing.T) {
	for _, threads := range []int{1, 2, 64} {
		x := made(t, threads, 3)
		shows(t, x, 0)
		for n := range threads {
			if m, err := x.Marked(n); m != -1 || err != nil {
				t.Errorf("Marked(%d) of %d is %d, %v", n, threads, m, err)
			}
			yield(t, x, n, false)
		}
		noThread(t, x, threads)
	}
}

// P16.1, Append and At, and example 1.

func TestExample1(t *testing.T) {
	x := made(t, 1, 9)
	appends(t, x, 0, "a")
	appendFails(t, x, 0, set("b"), 0)
	appends(t, x, 1, "b")
	shows(t, x, 0, "a", "b")
}

func TestAppendAtAnotherNumber(t *testing.T) {
	x := filled(t, 1, 9, 2, 1, 1)
	for _, last := range []int{-1, 0, 1, 3, math.MinInt, math.MaxInt} {
		appendFails(t, x, last, set("x"), 0)
	}
	shows(t, x, 1, "", "2")
	appends(t, x, 2, "3")
	shows(t, x, 1, "", "2", "3")
}

func TestAppendOfWhatMayNotBe(t *testing.T) {
	wrong := [][]commits.Write{
		nil, {}, {{}}, {{Gone: true}}, {{Key: text(17)}}, {{Key: "a", Value: text(17)}}, {{Key: "a", Value: "1", Gone: true}},
		{{Key: "b"}, {Key: "a"}}, {{Key: "a"}, {Key: "a"}}, {{Key: "a"}, {Key: "b"}, {}},
	}
	x := made(t, 1, 1)
	for _, l := range wrong {
		for _, last := range []int{0, 1, -1} { // rather than false, for another number
			appendFails(t, x, last, l, api.ErrArg)
		}
	}
	shows(t, x, 0)
	appends(t, x, 0, "1")
	for _, l := range wrong { // rather than ErrExhausted
		appendFails(t, x, 1, l, api.ErrArg)
	}
	shows(t, x, 0, "1")
}

func TestAppendUpToTheLimit(t *testing.T) {
	for _, limit := range []int{1, 2, 5} {
		x := filled(t, 2, limit, limit, 0, 0)
		var values []string
		for n := range limit {
			values = append(values, number(n+1))
		}
		for range 2 {
			appendFails(t, x, limit, set("x"), api.ErrExhausted)
			appendFails(t, x, limit-1, set("x"), 0)
			appendFails(t, x, limit+1, set("x"), 0)
			appendFails(t, x, 0, set("x"), 0)
		}
		shows(t, x, 0, values...)
	}
}

func TestTheLimitIsOfNumbersNotOfWhatIsKept(t *testing.T) {
	x := filled(t, 1, 3, 3, 3, 3)
	appendFails(t, x, 3, set("x"), api.ErrExhausted)
	shows(t, x, 3, "", "", "")
}

func TestAppendOfManyWritesManyTimes(t *testing.T) {
	x := made(t, 1, api.MaxCount)
	var l []commits.Write
	for i := range 300 {
		l = append(l, commits.Write{Key: string([]byte{byte(i >> 8), byte(i)}), Value: text(16)})
	}
	for n := range 200 {
		if ok, err := x.Append(n, l[n:]); !ok || err != nil {
			t.Fatalf("Append(%d): %v, %v", n, ok, err)
		}
	}
	for n := range 200 {
		if got, err := x.At(n + 1); !slices.Equal(got, l[n:]) || err != nil {
			t.Fatalf("At(%d) has %d, %v", n+1, len(got), err)
		}
	}
	if x.Last() != 200 || x.Count() != 200 {
		t.Errorf("Last is %d, Count is %d", x.Last(), x.Count())
	}
}

// P16.1, Advance.

func TestAdvance(t *testing.T) {
	x := made(t, 1, 9)
	advanceFails(t, x, 0, api.ErrState)
	advanceFails(t, x, 1, api.ErrState) // rather than false
	appends(t, x, 0, "1")
	appends(t, x, 1, "2")
	for _, base := range []int{-1, 1, 2, math.MinInt, math.MaxInt} {
		advanceFails(t, x, base, 0)
	}
	shows(t, x, 0, "1", "2")
	advances(t, x, 0)
	shows(t, x, 1, "1", "2")
	advanceFails(t, x, 0, 0)
	advances(t, x, 1)
	shows(t, x, 2, "1", "2")
	for _, base := range []int{-1, 0, 1, 2, 3, math.MaxInt} {
		advanceFails(t, x, base, api.ErrState)
	}
	appends(t, x, 2, "3")
	advances(t, x, 2)
	shows(t, x, 3, "1", "2", "3")
}

// P16.2, Mark and Marked.

func TestMark(t *testing.T) {
	x := made(t, 3, 9)
	marked(t, x, -1, -1, -1)
	mark(t, x, 1, 4)
	marked(t, x, -1, 4, -1)
	mark(t, x, 0, 0) // a mark like any other
	mark(t, x, 2, math.MaxInt)
	marked(t, x, 0, 4, math.MaxInt)
	mark(t, x, 1, 2)
	marked(t, x, 0, 2, math.MaxInt)
	mark(t, x, 0, -1)
	mark(t, x, 1, math.MinInt)
	mark(t, x, 2, -5)
	marked(t, x, -1, -1, -1)
	mark(t, x, 1, -1) // without a mark, too
	mark(t, x, 2, 3)
	marked(t, x, -1, -1, 3)
	shows(t, x, 0)
}

func TestThreadsThatThereAreNot(t *testing.T) {
	for _, threads := range []int{1, 2, 64} {
		x := made(t, threads, 9)
		mark(t, x, threads-1, 3)
		for _, thread := range []int{-1, threads, threads + 1, 64, 65, math.MinInt, math.MaxInt} {
			if thread >= threads || thread < 0 {
				noThread(t, x, thread)
			}
		}
		grab(t, x, 0, true) // nobody has it
		for _, thread := range []int{-1, threads, math.MinInt, math.MaxInt} {
			noThread(t, x, thread)
		}
		yield(t, x, 0, true)
		if n, err := x.Marked(threads - 1); n != 3 || err != nil {
			t.Errorf("Marked is %d, %v", n, err)
		}
	}
}

// P16.2, Grab and Yield.

func TestTheTokenIsHeldByOneThread(t *testing.T) {
	for holder := range 3 {
		x := made(t, 3, 9)
		for range 2 {
			grab(t, x, holder, true)
			for thread := range 3 {
				grab(t, x, thread, false) // its holder, too
			}
			for thread := range 3 {
				if thread != holder {
					yield(t, x, thread, false)
				}
			}
			grab(t, x, holder, false) // it was not taken away
			yield(t, x, holder, true)
			for thread := range 3 {
				yield(t, x, thread, false)
			}
		}
		grab(t, x, (holder+1)%3, true)
		yield(t, x, holder, false)
		yield(t, x, (holder+1)%3, true)
	}
}

// P16.2, Trim and Count.

func TestTrim(t *testing.T) {
	for _, c := range []struct{ last, base, dropped, n, want int }{
		{0, 0, 0, 0, 0},
		{0, 0, 0, 5, 0},
		{3, 0, 0, 3, 0},
		{3, 0, 0, math.MaxInt, 0},
		{3, 2, 0, 0, 0},
		{3, 2, 0, -1, 0},
		{3, 2, 0, math.MinInt, 0},
		{3, 2, 0, 1, 1},
		{3, 2, 0, 2, 2},
		{3, 2, 0, 3, 2},
		{3, 2, 0, math.MaxInt, 2},
		{3, 3, 0, 3, 3},
		{3, 3, 0, 4, 3},
		{3, 2, 1, 0, 0},
		{3, 2, 1, 1, 0},
		{3, 2, 1, 2, 1},
		{3, 2, 1, 3, 1},
		{3, 2, 2, 2, 0},
		{3, 2, 2, 1, 0},
		{3, 3, 2, -3, 0},
		{3, 3, 2, 3, 1},
	} {
		x := filled(t, 1, 9, c.last, c.base, c.dropped)
		trims(t, x, c.n, c.want)
		var values []string
		for n := range c.last {
			v := number(n + 1)
			if n < c.dropped+c.want {
				v = ""
			}
			values = append(values, v)
		}
		shows(t, x, c.base, values...)
		trims(t, x, c.n, 0)
		shows(t, x, c.base, values...)
	}
}

func TestATableGoesOnAfterATrim(t *testing.T) {
	x := filled(t, 2, 9, 2, 2, 2)
	mark(t, x, 1, 2)
	appends(t, x, 2, "3")
	appends(t, x, 3, "4")
	shows(t, x, 2, "", "", "3", "4")
	trims(t, x, 9, 0)
	advances(t, x, 2)
	trims(t, x, 9, 1)
	shows(t, x, 3, "", "", "", "4")
	marked(t, x, -1, 2)
}

func TestATrimOfManyCommits(t *testing.T) {
	x := made(t, 1, api.MaxCount)
	const n = 20000
	for i := range n {
		appends(t, x, i, "x")
		advances(t, x, i)
	}
	if x.Count() != n {
		t.Errorf("Count is %d", x.Count())
	}
	for i := range n / 2 {
		trims(t, x, i+1, 1)
	}
	if trims(t, x, math.MaxInt, n/2); x.Count() != 0 || x.Last() != n || x.Base() != n {
		t.Errorf("Count is %d, Last is %d, Base is %d", x.Count(), x.Last(), x.Base())
	}
}

// P16.2, Copy.

func TestCopyHasTheSame(t *testing.T) {
	x := filled(t, 3, 4, 3, 2, 1)
	mark(t, x, 1, 0)
	grab(t, x, 2, true)
	y := x.Copy()
	shows(t, y, 2, "", "2", "3")
	marked(t, y, -1, 0, -1)
	noThread(t, y, 3)
	grab(t, y, 0, false)
	yield(t, y, 0, false)
	yield(t, y, 2, true)
	appends(t, y, 3, "4")
	appendFails(t, y, 4, set("5"), api.ErrExhausted)
	trims(t, y, 9, 1)
	shows(t, y, 2, "", "", "3", "4")
}

// change changes all of a table that can be changed.
func change(t *testing.T, x *commits.Table) {
	t.Helper()
	appends(t, x, x.Last(), "x")
	advances(t, x, x.Base())
	x.Trim(x.Base())
	mark(t, x, 0, -1)
	mark(t, x, 1, 7)
	mark(t, x, 2, 5)
	yield(t, x, 2, true)
	grab(t, x, 0, true)
}

func TestCopyAndOriginalAreIndependent(t *testing.T) {
	for _, turned := range []bool{false, true} {
		a := filled(t, 3, 9, 3, 2, 1)
		mark(t, a, 0, 1)
		mark(t, a, 1, 2)
		grab(t, a, 2, true)
		b := a.Copy()
		if turned {
			a, b = b, a
		}
		change(t, a)
		shows(t, a, 3, "", "", "", "x")
		shows(t, b, 2, "", "2", "3")
		marked(t, a, -1, 7, 5)
		marked(t, b, 1, 2, -1)
		yield(t, b, 0, false)
		yield(t, b, 2, true)
		yield(t, a, 0, true)
		appends(t, b, 3, "y")
		shows(t, a, 3, "", "", "", "x")
		shows(t, b, 2, "", "2", "3", "y")
	}
}

func TestTwoTablesAreIndependent(t *testing.T) {
	a, b := made(t, 3, 9), made(t, 3, 9)
	grab(t, a, 2, true)
	change(t, a)
	shows(t, b, 0)
	marked(t, b, -1, -1, -1)
	grab(t, b, 1, true)
	appends(t, b, 0, "b")
	shows(t, a, 1, "")
	yield(t, a, 0, true)
}

// P16.2, a nil Table; and one that is not from New.

func TestNilTable(t *testing.T) {
	var x *commits.Table
	shows(t, x, 0)
	for _, n := range []int{0, 1, -1, math.MinInt, math.MaxInt} {
		appendFails(t, x, n, set("1"), api.ErrArg)
		appendFails(t, x, n, nil, api.ErrArg)
		advanceFails(t, x, n, api.ErrArg)
		trims(t, x, n, 0)
		noThread(t, x, n)
	}
	if y := x.Copy(); y != nil {
		t.Errorf("Copy is %v", y)
	}
}

func TestZeroTableDoesNotPanic(t *testing.T) {
	x := new(commits.Table)
	for range 2 {
		for _, n := range []int{0, 1, -1, math.MinInt, math.MaxInt} {
			x.Append(n, set("1"))
			x.At(n)
			x.Mark(n, n)
			x.Marked(n)
			x.Grab(n)
			x.Yield(n)
			x.Advance(n)
			x.Trim(n)
		}
		x.Last()
		x.Base()
		x.Count()
		x = x.Copy()
	}
}

// No memory is shared.

// roomy is writes with spare capacity that others may have something in.
func roomy(l []commits.Write) []commits.Write {
	room := append(slices.Clone(l), commits.Write{Key: "spare"}, commits.Write{Key: "spare", Gone: true})
	return room[:len(l)]
}

// overwrite puts other writes in place of what is there, the spare capacity included.
func overwrite(l []commits.Write) {
	l = l[:cap(l)]
	for i := range l {
		l[i] = commits.Write{Key: "over" + l[i].Key, Value: "written"}
	}
}

func TestAppendKeepsNothingOfItsArgument(t *testing.T) {
	x := made(t, 1, 9)
	for n, v := range []string{"1", "2", "3"} {
		l := roomy(set(v))
		was := slices.Clone(l[:cap(l)])
		if ok, err := x.Append(n, l); !ok || err != nil {
			t.Fatalf("Append(%d): %v, %v", n, ok, err)
		}
		if !slices.Equal(l[:cap(l)], was) {
			t.Errorf("Append changed %v to %v", was, l[:cap(l)])
		}
		overwrite(l)
	}
	shows(t, x, 0, "1", "2", "3")
}

func TestAtSharesNoMemory(t *testing.T) {
	x := filled(t, 1, 9, 3, 1, 0)
	y := x.Copy()
	var results [][]commits.Write
	for _, z := range []*commits.Table{x, x, y, y} {
		for n := 1; n <= 3; n++ {
			l, _ := z.At(n)
			results = append(results, l)
		}
	}
	for i, l := range results {
		if !slices.Equal(l, set(number(i%3+1))) {
			t.Errorf("result %d is %v", i, l)
		}
		overwrite(l)
	}
	shows(t, x, 1, "1", "2", "3")
	shows(t, y, 1, "1", "2", "3")
	l, _ := x.At(1)
	x.Advance(1)
	if trims(t, x, 2, 2); !slices.Equal(l, set("1")) {
		t.Errorf("a result became %v after a Trim", l)
	}
}

// state is what a table has to be like, told in another way: a list of all commits, and of which are dropped.
type state struct {
	limit, base int
	values      []string
	dropped     []bool
	marks       []int
	held        []bool
}

// newState is the initial one.
func newState(threads, limit int) *state {
	s := &state{limit: limit, held: make([]bool, threads)}
	for range threads {
		s.marks = append(s.marks, -1)
	}
	return s
}

// append is what Append has to return.
func (s *state) append(last int, value string) (bool, api.Code) {
	switch {
	case value == "":
		return false, api.ErrArg
	case last != len(s.values):
		return false, 0
	case last == s.limit:
		return false, api.ErrExhausted
	}
	s.values = append(s.values, value)
	s.dropped = append(s.dropped, false)
	return true, 0
}

// advance is what Advance has to return.
func (s *state) advance(base int) (bool, api.Code) {
	switch {
	case s.base == len(s.values):
		return false, api.ErrState
	case s.base != base:
		return false, 0
	}
	s.base++
	return true, 0
}

// trim is what Trim has to return.
func (s *state) trim(n int) int {
	count := 0
	for i := range s.dropped {
		if i+1 <= n && i+1 <= s.base && !s.dropped[i] {
			s.dropped[i] = true
			count++
		}
	}
	return count
}

// grab is what Grab has to return.
func (s *state) grab(thread int) (bool, api.Code) {
	if thread < 0 || thread >= len(s.held) {
		return false, api.ErrArg
	}
	if slices.Contains(s.held, true) {
		return false, 0
	}
	s.held[thread] = true
	return true, 0
}

// yield is what Yield has to return.
func (s *state) yield(thread int) (bool, api.Code) {
	if thread < 0 || thread >= len(s.held) {
		return false, api.ErrArg
	}
	was := s.held[thread]
	s.held[thread] = false
	return was, 0
}

// mark is what Mark has to return.
func (s *state) mark(thread, n int) api.Code {
	if thread < 0 || thread >= len(s.marks) {
		return api.ErrArg
	}
	s.marks[thread] = max(n, -1)
	return 0
}

// shown is the commits as shows asks for them.
func (s *state) shown() []string {
	values := slices.Clone(s.values)
	for i := range values {
		if s.dropped[i] {
			values[i] = ""
		}
	}
	return values
}

// kinds is how many different calls tableCall knows of.
const kinds = 22

// tableCall makes a call of a table, and asks for what has to come of it.
func tableCall(t *testing.T, x *commits.Table, s *state, k int, done []int) {
	t.Helper()
	var ok, want bool
	var err error
	var wantCode api.Code
	switch {
	case k < 4:
		v := number(len(done))
		ok, err = x.Append(k-1, set(v))
		want, wantCode = s.append(k-1, v)
	case k == 4:
		ok, err = x.Append(s.base, nil)
		want, wantCode = s.append(s.base, "")
	case k < 8:
		ok, err = x.Advance(k - 5)
		want, wantCode = s.advance(k - 5)
	case k < 12:
		if n, m := x.Trim(k-9), s.trim(k-9); n != m {
			t.Fatalf("%v: Trim(%d) is %d, not %d", done, k-9, n, m)
		}
	case k < 15:
		ok, err = x.Grab(k - 12)
		want, wantCode = s.grab(k - 12)
	case k < 18:
		ok, err = x.Yield(k - 15)
		want, wantCode = s.yield(k - 15)
	default:
		thread, n := (k-18)/2, len(done)*((k-18)%2)-1
		err, wantCode = x.Mark(thread, n), s.mark(thread, n)
	}
	if ok != want || code(err) != wantCode {
		t.Fatalf("%v: %v, %v, not %v, %d", done, ok, err, want, wantCode)
	}
}

func TestAllShortSequencesOfCallsOfATable(t *testing.T) {
	t.Parallel()
	for _, c := range []struct{ threads, limit, length int }{{1, 1, 3}, {2, 2, 4}, {2, 3, 3}} {
		for n := range power(kinds, c.length) {
			x, s := made(t, c.threads, c.limit), newState(c.threads, c.limit)
			var done []int
			for range c.length {
				done = append(done, n%kinds)
				n /= kinds
				tableCall(t, x, s, done[len(done)-1], done)
			}
			shows(t, x, s.base, s.shown()...)
			marked(t, x, s.marks...)
		}
	}
}

// power is the number of sequences of calls.
func power(kinds, length int) int {
	n := 1
	for range length {
		n *= kinds
	}
	return n
}

func TestLongSequencesOfCallsOfATable(t *testing.T) {
	t.Parallel()
	seed := uint32(1)
	for range 300 {
		x, s := made(t, 2, 30), newState(2, 30)
		var done []int
		for range 150 {
			seed = seed*1664525 + 1013904223
			k := int(seed>>8) % (kinds + 10)
			if k >= kinds { // what goes on where it is
				v := number(len(done) % 10)
				ok, err := x.Append(x.Last(), set(v))
				if want, wantCode := s.append(len(s.values), v); ok != want || code(err) != wantCode {
					t.Fatalf("%v: Append is %v, %v", done, ok, err)
				}
				ok, err = x.Advance(x.Base())
				if want, wantCode := s.advance(s.base); ok != want || code(err) != wantCode {
					t.Fatalf("%v: Advance is %v, %v", done, ok, err)
				}
				continue
			}
			done = append(done, k)
			if k == 11 && x.Trim(x.Base()-3) != s.trim(s.base-3) {
				t.Fatalf("%v: Trim", done)
			}
			tableCall(t, x, s, k, done)
			shows(t, x, s.base, s.shown()...)
			marked(t, x, s.marks...)
			if k == 3 {
				x = x.Copy()
			}
		}
	}
}

// P16.4.

// orders are all orders of the first numbers.
func orders(n int) [][]int {
	if n == 0 {
		return [][]int{nil}
	}
	var all [][]int
	for _, o := range orders(n - 1) {
		for i := range n {
			all = append(all, slices.Insert(slices.Clone(o), i, n-1))
		}
	}
	return all
}

func TestOfSeveralAppendsWithTheSameNumberOneSucceeds(t *testing.T) {
	values := []string{"p", "q", "r", "s"}
	for _, order := range orders(len(values)) {
		x := filled(t, 1, 9, 2, 1, 1)
		y := x.Copy()
		succeeded := 0
		for _, i := range order {
			ok, err := x.Append(2, set(values[i]))
			if err != nil {
				t.Fatalf("Append: %v", err)
			}
			if ok {
				succeeded++
			}
		}
		if succeeded != 1 {
			t.Errorf("%d of %v succeeded", succeeded, order)
		}
		shows(t, x, 1, "", "2", values[order[0]])
		shows(t, y, 1, "", "2")
	}
}
