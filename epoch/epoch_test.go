package epoch_test

import (
	"errors"
	"math"
	"slices"
	"testing"

	"rowlock/api"
	"rowlock/epoch"
)

// code is the code of an error, or 0.
func code(err error) api.Code {
	var c api.Code
	errors.As(err, &c)
	return c
}

// made is a new clock.
func made(t *testing.T, threads, last int) *epoch.Clock {
	t.Helper()
	c := epoch.New(threads, last)
	if c == nil {
		t.Fatalf("New(%d, %d) is nil", threads, last)
	}
	return c
}

// bumps asks for the numbers that come next.
func bumps(t *testing.T, c *epoch.Clock, want ...int) {
	t.Helper()
	for _, w := range want {
		if n, err := c.Bump(); n != w || err != nil {
			t.Fatalf("Bump is %d, %v, not %d", n, err, w)
		}
	}
}

// enters asks that a thread enters.
func enters(t *testing.T, c *epoch.Clock, thread, at int) {
	t.Helper()
	if err := c.Enter(thread, at); err != nil {
		t.Fatalf("Enter(%d, %d): %v", thread, at, err)
	}
}

// leaves asks that threads leave.
func leaves(t *testing.T, c *epoch.Clock, threads ...int) {
	t.Helper()
	for _, n := range threads {
		if err := c.Leave(n); err != nil {
			t.Fatalf("Leave(%d): %v", n, err)
		}
	}
}

// shows asks for the clock's number, the oldest one, and the numbers of the first threads (0 for a thread that is outside).
func shows(t *testing.T, c *epoch.Clock, now, oldest int, ats ...int) {
	t.Helper()
	if got := c.Now(); got != now {
		t.Fatalf("Now is %d, not %d", got, now)
	}
	if got := c.Oldest(); got != oldest {
		t.Fatalf("Oldest is %d, not %d", got, oldest)
	}
	for thread, want := range ats {
		if at, in, err := c.At(thread); at != want || in != (want != 0) || err != nil {
			t.Fatalf("At(%d) is %d, %v, %v, not %d", thread, at, in, err, want)
		}
	}
}

// enterFails asks that a thread can't enter.
func enterFails(t *testing.T, c *epoch.Clock, thread, at int, want api.Code) {
	t.Helper()
	if err := c.Enter(thread, at); code(err) != want {
		t.Fatalf("Enter(%d, %d) is %v, not %v", thread, at, err, want)
	}
}

// leaveFails asks that a thread can't leave.
func leaveFails(t *testing.T, c *epoch.Clock, thread int, want api.Code) {
	t.Helper()
	if err := c.Leave(thread); code(err) != want {
		t.Fatalf("Leave(%d) is %v, not %v", thread, err, want)
	}
}

// noThread asks that there is no such thread.
func noThread(t *testing.T, c *epoch.Clock, thread int) {
	t.Helper()
	for _, at := range []int{1, 0, -1, math.MinInt, math.MaxInt} {
		enterFails(t, c, thread, at, api.ErrArg)
	}
	leaveFails(t, c, thread, api.ErrArg)
	if at, in, err := c.At(thread); at != 0 || in || code(err) != api.ErrArg {
		t.Fatalf("At(%d) is %d, %v, %v", thread, at, in, err)
	}
}

// P6.1, New and Now.

func TestNew(t *testing.T) {
	for _, x := range []struct {
		threads, last int
		want          bool
	}{
		{1, 1, true},
		{2, 3, true},
		{api.MaxThreads, api.MaxCount, true},
		{api.MaxThreads - 1, api.MaxCount - 1, true},
		{0, 1, false},
		{-1, 1, false},
		{math.MinInt, 1, false},
		{api.MaxThreads + 1, 1, false},
		{math.MaxInt, 1, false},
		{1, 0, false},
		{1, -1, false},
		{1, math.MinInt, false},
		{1, api.MaxCount + 1, false},
		{1, math.MaxInt, false},
		{0, 0, false},
		{api.MaxThreads + 1, api.MaxCount + 1, false},
	} {
		c := epoch.New(x.threads, x.last)
		if (c != nil) != x.want {
			t.Errorf("New(%d, %d) is %v", x.threads, x.last, c)
		}
		if c == nil {
			continue
		}
		shows(t, c, 1, 1, make([]int, x.threads)...)
		for n := range x.threads {
			leaveFails(t, c, n, api.ErrState)
			enters(t, c, n, 1)
		}
		for _, n := range []int{-1, x.threads, x.threads + 1, math.MinInt, math.MaxInt} {
			noThread(t, c, n)
		}
	}
}

// P6.1, Bump.

func TestBumpUpToTheLastNumber(t *testing.T) {
	for last := 1; last <= 4; last++ {
		c := made(t, 1, last)
		for n := 2; n <= last; n++ {
			bumps(t, c, n)
			shows(t, c, n, n, 0)
		}
		for range 3 {
			if n, err := c.Bump(); n != last || code(err) != api.ErrExhausted {
				t.Fatalf("Bump at %d is %d, %v", last, n, err)
			}
			shows(t, c, last, last, 0)
		}
	}
}

func TestAnExhaustedClockStillLetsThreadsInAndOut(t *testing.T) {
	c := made(t, 2, 2)
	enters(t, c, 0, 1)
	bumps(t, c, 2)
	c.Bump()
	shows(t, c, 2, 1, 1, 0)
	enters(t, c, 1, 2)
	leaves(t, c, 0)
	shows(t, c, 2, 2, 0, 2)
	enterFails(t, c, 0, 3, api.ErrRange)
}

func TestBumpKeepsTheThreads(t *testing.T) {
	c := made(t, 3, 9)
	enters(t, c, 1, 1)
	bumps(t, c, 2, 3)
	shows(t, c, 3, 1, 0, 1, 0)
	enters(t, c, 2, 3)
	bumps(t, c, 4)
	shows(t, c, 4, 1, 0, 1, 3)
}

// P6.1, Enter.

func TestEnterAtANumberOfTheClock(t *testing.T) {
	for at := 1; at <= 3; at++ {
		c := made(t, 2, 9)
		bumps(t, c, 2, 3)
		enters(t, c, 1, at)
		shows(t, c, 3, at, 0, at)
	}
}

func TestEnterOutOfRange(t *testing.T) {
	c := made(t, 2, 9)
	bumps(t, c, 2, 3)
	for _, at := range []int{0, -1, 4, 9, 10, math.MinInt, math.MaxInt, api.MaxCount} {
		enterFails(t, c, 0, at, api.ErrRange)
		shows(t, c, 3, 3, 0, 0)
	}
	bumps(t, c, 4)
	enters(t, c, 0, 4)
}

func TestEnterTwice(t *testing.T) {
	c := made(t, 2, 9)
	bumps(t, c, 2)
	enters(t, c, 0, 2)
	for _, at := range []int{1, 2, 3, 0, -1, math.MinInt, math.MaxInt} { // inside is told ahead of the range
		enterFails(t, c, 0, at, api.ErrState)
		shows(t, c, 2, 2, 2, 0)
	}
	enters(t, c, 1, 1)
	shows(t, c, 2, 1, 2, 1)
	leaves(t, c, 0)
	enters(t, c, 0, 1)
	shows(t, c, 2, 1, 1, 1)
}

// P6.1, Leave and At.

func TestLeave(t *testing.T) {
	c := made(t, 3, 9)
	enters(t, c, 0, 1)
	enters(t, c, 1, 1)
	leaveFails(t, c, 2, api.ErrState)
	leaves(t, c, 0)
	shows(t, c, 1, 1, 0, 1, 0)
	for range 2 {
		leaveFails(t, c, 0, api.ErrState)
		shows(t, c, 1, 1, 0, 1, 0)
	}
	bumps(t, c, 2)
	enters(t, c, 0, 2)
	leaves(t, c, 1, 0)
	shows(t, c, 2, 2, 0, 0, 0)
}

func TestThreadsThatThereAreNot(t *testing.T) {
	c := made(t, 2, 9)
	for _, n := range []int{-1, -2, 2, 3, api.MaxThreads - 1, api.MaxThreads, math.MinInt, math.MaxInt} {
		noThread(t, c, n)
	}
	shows(t, c, 1, 1, 0, 0)
	enters(t, c, 0, 1)
	enters(t, c, 1, 1)
	for _, n := range []int{-1, 2, math.MinInt, math.MaxInt} {
		noThread(t, c, n)
	}
	shows(t, c, 1, 1, 1, 1)
}

// P6.2, Oldest.

func TestExample1(t *testing.T) {
	c := made(t, 1, 9)
	enters(t, c, 0, 1)
	bumps(t, c, 2, 3)
	shows(t, c, 3, 1, 1)
	leaves(t, c, 0)
	shows(t, c, 3, 3, 0)
}

func TestOldestIsTheLeastNumber(t *testing.T) {
	for _, ats := range [][]int{{2, 3, 4}, {2, 4, 3}, {3, 2, 4}, {3, 4, 2}, {4, 2, 3}, {4, 3, 2}} {
		c := made(t, 3, 9)
		bumps(t, c, 2, 3, 4, 5)
		shows(t, c, 5, 5)
		least := 5
		for thread, at := range ats {
			enters(t, c, thread, at)
			least = min(least, at)
			shows(t, c, 5, least)
		}
		for want, at := range []int{2, 3, 4} { // the oldest one leaves
			leaves(t, c, slices.Index(ats, at))
			shows(t, c, 5, want+3)
		}
	}
}

func TestOldestOfThreadsAtOneNumber(t *testing.T) {
	c := made(t, 2, 9)
	bumps(t, c, 2)
	enters(t, c, 0, 1)
	enters(t, c, 1, 1)
	leaves(t, c, 0)
	shows(t, c, 2, 1, 0, 1)
	leaves(t, c, 1)
	shows(t, c, 2, 2, 0, 0)
}

// P6.2, Copy.

func TestCopyHasTheSame(t *testing.T) {
	c := made(t, 3, 3)
	bumps(t, c, 2)
	enters(t, c, 1, 1)
	d := c.Copy()
	shows(t, d, 2, 1, 0, 1, 0)
	noThread(t, d, 3)
	enterFails(t, d, 1, 1, api.ErrState)
	bumps(t, d, 3)
	if n, err := d.Bump(); n != 3 || code(err) != api.ErrExhausted {
		t.Errorf("Bump of the copy at the end is %d, %v", n, err)
	}
}

func TestCopyAndOriginalAreIndependent(t *testing.T) {
	original := made(t, 3, 9)
	bumps(t, original, 2)
	enters(t, original, 0, 1)
	for _, turned := range []bool{false, true} {
		a := original.Copy()
		b := a.Copy()
		if turned {
			a, b = b, a
		}
		bumps(t, a, 3)
		shows(t, b, 2, 1, 1, 0, 0)
		enters(t, a, 1, 3)
		shows(t, b, 2, 1, 1, 0, 0)
		leaves(t, a, 0)
		shows(t, b, 2, 1, 1, 0, 0)
		enters(t, b, 2, 2)
		leaves(t, b, 0)
		shows(t, a, 3, 3, 0, 3, 0)
		shows(t, b, 2, 2, 0, 0, 2)
	}
	shows(t, original, 2, 1, 1, 0, 0)
}

func TestTwoClocksAreIndependent(t *testing.T) {
	a, b := made(t, 2, 9), made(t, 2, 9)
	bumps(t, a, 2)
	enters(t, a, 0, 2)
	shows(t, b, 1, 1, 0, 0)
	enters(t, b, 0, 1)
	shows(t, a, 2, 2, 2, 0)
}

// P6.2, a nil Clock; and one that is not from New.

func TestNilClock(t *testing.T) {
	var c *epoch.Clock
	shows(t, c, 0, 0)
	if n, err := c.Bump(); n != 0 || code(err) != api.ErrArg {
		t.Errorf("Bump is %d, %v", n, err)
	}
	for _, n := range []int{0, 1, -1, math.MinInt, math.MaxInt} {
		noThread(t, c, n)
	}
	if d := c.Copy(); d != nil {
		t.Errorf("Copy is %v", d)
	}
}

func TestZeroClockDoesNotPanic(t *testing.T) {
	c := new(epoch.Clock)
	for range 2 {
		for _, n := range []int{0, 1, -1, math.MaxInt} {
			c.Enter(n, n)
			c.At(n)
			c.Leave(n)
		}
		c.Bump()
		c.Now()
		c.Oldest()
		c = c.Copy()
	}
}

// state is what a clock has to be like, told in another way: a number for each thread, 0 outside.
type state struct {
	now, last int
	ats       []int
}

// enter is what Enter has to return.
func (s *state) enter(thread, at int) api.Code {
	switch {
	case thread >= len(s.ats):
		return api.ErrArg
	case s.ats[thread] != 0:
		return api.ErrState
	case at < 1 || at > s.now:
		return api.ErrRange
	}
	s.ats[thread] = at
	return 0
}

// leave is what Leave has to return.
func (s *state) leave(thread int) api.Code {
	switch {
	case thread >= len(s.ats):
		return api.ErrArg
	case s.ats[thread] == 0:
		return api.ErrState
	}
	s.ats[thread] = 0
	return 0
}

// bump is what Bump has to return.
func (s *state) bump() (int, api.Code) {
	if s.now == s.last {
		return s.now, api.ErrExhausted
	}
	s.now++
	return s.now, 0
}

// oldest is what Oldest has to return.
func (s *state) oldest() int {
	for n := 1; n < s.now; n++ {
		if slices.Contains(s.ats, n) {
			return n
		}
	}
	return s.now
}

// clockCalls makes calls of a new clock: each is 0 for a Bump, or tells which thread leaves, or enters at which number.
func clockCalls(t *testing.T, calls []int, threads, last int) {
	t.Helper()
	c := made(t, threads, last)
	s := state{now: 1, last: last, ats: make([]int, threads)}
	for i, k := range calls {
		done := calls[:i+1]
		switch {
		case k == 0:
			n, err := c.Bump()
			if want, wantCode := s.bump(); n != want || code(err) != wantCode {
				t.Fatalf("%v: Bump is %d, %v", done, n, err)
			}
		case k <= threads+1: // one more than there are
			err := c.Leave(k - 1)
			if want := s.leave(k - 1); code(err) != want {
				t.Fatalf("%v: Leave is %v, not %v", done, err, want)
			}
		default:
			k -= threads + 2
			thread, at := k/(last+2), k%(last+2)
			err := c.Enter(thread, at)
			if want := s.enter(thread, at); code(err) != want {
				t.Fatalf("%v: Enter(%d, %d) is %v, not %v", done, thread, at, err, want)
			}
		}
		shows(t, c, s.now, s.oldest(), s.ats...)
	}
}

// sequence is the sequence of calls of a number.
func sequence(number, kinds, length int) []int {
	var calls []int
	for range length {
		calls = append(calls, number%kinds)
		number /= kinds
	}
	return calls
}

// power is the number of sequences of calls.
func power(kinds, length int) int {
	n := 1
	for range length {
		n *= kinds
	}
	return n
}

func TestAllShortSequencesOfCallsOfAClock(t *testing.T) {
	for _, x := range []struct{ threads, last, length int }{
		{1, 1, 4}, {1, 3, 4}, {2, 2, 4}, {3, 2, 3}, {2, 3, 3},
	} {
		kinds := 2 + x.threads + (x.threads+1)*(x.last+2)
		for n := range power(kinds, x.length) {
			clockCalls(t, sequence(n, kinds, x.length), x.threads, x.last)
		}
	}
}

// item is an item that can be told from others by its page.
func item(stamp, page int) epoch.Item {
	return epoch.Item{Stamp: stamp, Chain: api.Ref{Slot: page + 1, Gen: stamp}, Page: page}
}

// filled is a bin with items of these stamps, their pages numbered from 0 on.
func filled(stamps ...int) *epoch.Bin {
	b := new(epoch.Bin)
	for i, n := range stamps {
		b.Add(item(n, i))
	}
	return b
}

// has asks for the items of a bin.
func has(t *testing.T, b *epoch.Bin, want ...epoch.Item) {
	t.Helper()
	if got := b.Items(); !slices.Equal(got, want) {
		t.Fatalf("Items is %v, not %v", got, want)
	}
	if got := b.Len(); got != len(want) {
		t.Fatalf("Len is %d, not %d", got, len(want))
	}
}

// ripens asks for the items that are ripe.
func ripens(t *testing.T, b *epoch.Bin, oldest int, want ...epoch.Item) {
	t.Helper()
	if got := b.Ripe(oldest); !slices.Equal(got, want) {
		t.Fatalf("Ripe(%d) is %v, not %v", oldest, got, want)
	}
}

// P6.3, Add, Len and Items.

func TestZeroBinIsEmpty(t *testing.T) {
	var b epoch.Bin
	has(t, &b)
	for _, oldest := range []int{0, 1, -1, math.MinInt, math.MaxInt} {
		ripens(t, &b, oldest)
	}
	has(t, &b)
	b.Add(item(1, 0))
	has(t, &b, item(1, 0))
}

func TestAddKeepsTheOrder(t *testing.T) {
	b := new(epoch.Bin)
	var want []epoch.Item
	for i, n := range []int{3, 1, 2, 1, 3, 0, -5} {
		b.Add(item(n, i))
		want = append(want, item(n, i))
		has(t, b, want...)
	}
}

func TestAddTakesAnyItemAnyTimes(t *testing.T) {
	var want []epoch.Item
	b := new(epoch.Bin)
	for _, x := range []epoch.Item{
		{}, {}, item(1, 2), item(1, 2),
		{Stamp: math.MinInt, Chain: api.Ref{Slot: math.MinInt, Gen: math.MaxInt}, Page: -1},
		{Stamp: math.MaxInt, Chain: api.Ref{Slot: math.MaxInt, Gen: math.MinInt}, Page: math.MaxInt},
	} {
		b.Add(x)
		want = append(want, x)
	}
	has(t, b, want...)
	ripens(t, b, math.MaxInt, want[:5]...)
	has(t, b, want[5])
}

func TestManyItems(t *testing.T) {
	const many = 100000
	b := new(epoch.Bin)
	for i := range many {
		b.Add(item(i%2, i))
	}
	if b.Len() != many {
		t.Fatalf("Len is %d", b.Len())
	}
	for i, x := range b.Items() {
		if x != item(i%2, i) {
			t.Fatalf("item %d is %v", i, x)
		}
	}
	ripe := b.Ripe(1)
	if len(ripe) != many/2 || b.Len() != many/2 || ripe[1] != item(0, 2) || b.Items()[1] != item(1, 3) {
		t.Fatalf("%d are ripe, %d are not", len(ripe), b.Len())
	}
}

// P6.3, Ripe.

func TestRipe(t *testing.T) {
	b := filled(3, 1, 2, 1)
	ripens(t, b, 0)
	ripens(t, b, 1) // a stamp has to be less
	has(t, b, item(3, 0), item(1, 1), item(2, 2), item(1, 3))
	ripens(t, b, 2, item(1, 1), item(1, 3))
	has(t, b, item(3, 0), item(2, 2))
	ripens(t, b, 2)
	ripens(t, b, 9, item(3, 0), item(2, 2))
	has(t, b)
	ripens(t, b, 9)
}

func TestRipeOfTheFirstTheLastAndAll(t *testing.T) {
	b := filled(1, 2, 2)
	ripens(t, b, 2, item(1, 0))
	has(t, b, item(2, 1), item(2, 2))
	b = filled(2, 2, 1)
	ripens(t, b, 2, item(1, 2))
	has(t, b, item(2, 0), item(2, 1))
	b = filled(1, 1)
	ripens(t, b, 2, item(1, 0), item(1, 1))
	has(t, b)
}

func TestRipeOfGreatAndNegativeNumbers(t *testing.T) {
	b := filled(math.MaxInt, math.MinInt, -1, 0, api.MaxCount)
	ripens(t, b, math.MinInt)
	ripens(t, b, -1, item(math.MinInt, 1))
	ripens(t, b, 0, item(-1, 2))
	ripens(t, b, math.MaxInt, item(0, 3), item(api.MaxCount, 4))
	has(t, b, item(math.MaxInt, 0))
}

func TestAddAfterRipe(t *testing.T) {
	b := filled(1, 3, 2)
	ripens(t, b, 2, item(1, 0))
	b.Add(item(1, 7))
	b.Add(item(4, 8))
	has(t, b, item(3, 1), item(2, 2), item(1, 7), item(4, 8))
	ripens(t, b, 3, item(2, 2), item(1, 7))
	ripens(t, b, 5, item(3, 1), item(4, 8))
	b.Add(item(0, 9))
	has(t, b, item(0, 9))
}

// P6.3, memory.

// spoil overwrites a list, with its spare capacity.
func spoil(l []epoch.Item) {
	l = l[:cap(l)]
	for i := range l {
		l[i] = item(77, 77)
	}
}

func TestResultsShareNoMemory(t *testing.T) {
	b := filled(1, 3, 2, 1, 3)
	one, two := b.Items(), b.Items()
	was := slices.Clone(two[:cap(two)])
	spoil(one)
	if !slices.Equal(two[:cap(two)], was) {
		t.Error("two results of Items share memory")
	}
	has(t, b, item(1, 0), item(3, 1), item(2, 2), item(1, 3), item(3, 4))
	ripe := b.Ripe(2)
	rest := b.Items()
	spoil(ripe)
	has(t, b, item(3, 1), item(2, 2), item(3, 4))
	if !slices.Equal(rest, []epoch.Item{item(3, 1), item(2, 2), item(3, 4)}) {
		t.Errorf("a result changed to %v", rest)
	}
	spoil(rest)
	b.Add(item(1, 5))
	has(t, b, item(3, 1), item(2, 2), item(3, 4), item(1, 5))
}

func TestResultsStayAsTheyAre(t *testing.T) {
	b := filled(1, 2)
	items := b.Items()
	ripe := b.Ripe(2)
	for i := range 5 {
		b.Add(item(5, i))
	}
	b.Ripe(9)
	b.Add(item(6, 6))
	if !slices.Equal(items, []epoch.Item{item(1, 0), item(2, 1)}) || !slices.Equal(ripe, []epoch.Item{item(1, 0)}) {
		t.Errorf("results changed to %v and %v", items, ripe)
	}
}

func TestBinsAreIndependent(t *testing.T) {
	a, b := filled(1), filled(1, 2)
	a.Add(item(5, 5))
	ripens(t, a, 2, item(1, 0))
	has(t, b, item(1, 0), item(2, 1))
	ripens(t, b, 9, item(1, 0), item(2, 1))
	has(t, a, item(5, 5))
}

func TestABinThatWasCopiedAsAValueIsIndependent(t *testing.T) {
	for n := range 6 {
		a := filled([]int{1, 2, 1, 2, 1}[:n]...)
		want := a.Items()
		b := *a
		a.Add(item(3, 7))
		b.Add(item(3, 8))
		has(t, a, append(slices.Clone(want), item(3, 7))...)
		has(t, &b, append(slices.Clone(want), item(3, 8))...)
		a.Ripe(2)
		has(t, &b, append(slices.Clone(want), item(3, 8))...)
		b.Ripe(9)
		ripens(t, a, 2)
		if a.Len() != n/2+1 {
			t.Fatalf("Items is %v", a.Items())
		}
	}
}

// P6.3, a nil Bin.

func TestNilBin(t *testing.T) {
	var b *epoch.Bin
	for range 2 {
		has(t, b)
		for _, oldest := range []int{0, 1, math.MinInt, math.MaxInt} {
			ripens(t, b, oldest)
		}
		b.Add(item(1, 1))
	}
}

// P6.4 and P6.5.

// visit is a thread's being inside: its number, and whether it still is.
type visit struct {
	at     int
	inside bool
}

// world is a clock and a bin, and for each item that was ever added, which visits it has to wait for.
type world struct {
	clock  *epoch.Clock
	bin    epoch.Bin
	visits []*visit
	waits  [][]*visit
	gone   []bool
}

// add puts an item into the bin; it waits for the threads inside if the clock has its number, and else for those with a number below its own.
func (w *world) add(stamp int) {
	var waits []*visit
	for _, v := range w.visits {
		if v != nil && v.inside && (stamp == w.clock.Now() || stamp > v.at) {
			waits = append(waits, v)
		}
	}
	w.bin.Add(item(stamp, len(w.waits)))
	w.waits = append(w.waits, waits)
	w.gone = append(w.gone, false)
}

// ripe asks that what is ripe was in the bin up to now, and waits for nobody.
func (w *world) ripe(t *testing.T, calls []int) {
	t.Helper()
	for _, x := range w.bin.Ripe(w.clock.Oldest()) {
		if w.gone[x.Page] {
			t.Fatalf("%v: %v is ripe twice", calls, x)
		}
		w.gone[x.Page] = true
		for _, v := range w.waits[x.Page] {
			if v.inside {
				t.Fatalf("%v: %v is ripe, while a thread is inside at %d", calls, x, v.at)
			}
		}
	}
	var left []int
	for i, gone := range w.gone {
		if !gone {
			left = append(left, i)
		}
	}
	var got []int
	for _, x := range w.bin.Items() {
		got = append(got, x.Page)
	}
	if !slices.Equal(got, left) {
		t.Fatalf("%v: in the bin are %v, not %v", calls, got, left)
	}
}

// enter makes a thread inside, if it may be.
func (w *world) enter(thread, at int) {
	if w.clock.Enter(thread, at) == nil {
		w.visits[thread] = &visit{at: at, inside: true}
	}
}

// leave makes a thread outside, if it is inside.
func (w *world) leave(thread int) {
	if w.clock.Leave(thread) == nil {
		w.visits[thread].inside = false
	}
}

// worldCalls makes calls: each is 0 for a Bump, 1 to sort out what is ripe, 2 to add an item with the clock's number, or tells which item to add, or which thread leaves, or enters at which number.
func worldCalls(t *testing.T, calls []int, threads, last int) {
	t.Helper()
	w := &world{clock: made(t, threads, last), visits: make([]*visit, threads)}
	for i, k := range calls {
		switch {
		case k == 0:
			w.clock.Bump()
		case k == 1:
			w.ripe(t, calls[:i+1])
		case k == 2:
			w.add(w.clock.Now())
		case k < 3+last:
			w.add(k - 2)
		case k < 3+last+threads:
			w.leave(k - 3 - last)
		default:
			k -= 3 + last + threads
			w.enter(k/last, k%last+1)
		}
	}
	w.ripe(t, calls)
	w.ripe(t, calls)
	for n := range threads {
		w.leave(n)
	}
	w.ripe(t, calls)
}

func TestNoItemIsRipeTooSoonOrTwice(t *testing.T) {
	for _, x := range []struct{ threads, last, length int }{
		{1, 3, 5}, {2, 2, 5}, {2, 3, 4},
	} {
		kinds := 3 + x.last + x.threads + x.threads*x.last
		for n := range power(kinds, x.length) {
			worldCalls(t, sequence(n, kinds, x.length), x.threads, x.last)
		}
	}
}

func TestAnItemWaitsForTheThreadsThatMayHaveSeenIt(t *testing.T) {
	c := made(t, 3, 9)
	b := new(epoch.Bin)
	enters(t, c, 0, 1)
	bumps(t, c, 2)
	enters(t, c, 1, 2)
	x := item(c.Now(), 0)
	b.Add(x)
	bumps(t, c, 3)
	enters(t, c, 2, 3) // too late to have seen it
	ripens(t, b, c.Oldest())
	leaves(t, c, 0)
	ripens(t, b, c.Oldest())
	leaves(t, c, 1)
	ripens(t, b, c.Oldest(), x)
	ripens(t, b, c.Oldest())
	leaves(t, c, 2)
	ripens(t, b, c.Oldest())
}

func TestAnItemWithTheClocksNumberWaitsForABump(t *testing.T) {
	c := made(t, 1, 2)
	b := filled(c.Now())
	ripens(t, b, c.Oldest())
	bumps(t, c, 2)
	ripens(t, b, c.Oldest(), item(1, 0))
}
