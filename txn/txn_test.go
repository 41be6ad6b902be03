package txn_test

import (
	"errors"
	"math"
	"reflect"
	"slices"
	"strings"
	"testing"

	"rowlock/api"
	"rowlock/bkey"
	"rowlock/commits"
	"rowlock/mem"
	"rowlock/tree"
	"rowlock/txn"
)

// limits are those of most tests: pages that are soon full.
func limits() api.Limits {
	return api.Limits{Slots: 400, Pages: 60, Threads: 3, Rows: 2, Chain: 3, Count: 1 << 30}
}

// store is a new store.
func store(t *testing.T, l api.Limits) txn.Store {
	t.Helper()
	s, err := txn.NewStore(l)
	if err != nil {
		t.Fatal(err)
	}
	return s
}

// copied is a store of its own.
func copied(s txn.Store) txn.Store {
	return txn.Store{Mem: s.Mem.Copy(), Table: s.Table.Copy()}
}

// code is the code in an error, and 0 without one.
func code(err error) api.Code {
	var c api.Code
	errors.As(err, &c)
	return c
}

func text(n int) string { return strings.Repeat("k", n) }

// span is one from low up to high, or without an end if high is "".
func span(low, high string) bkey.Span {
	return bkey.Span{Low: low, High: high, Unbounded: high == ""}
}

// writes is writes, each as key=value, or as -key for a deletion, in the order of the text.
func writes(s string) []commits.Write {
	var l []commits.Write
	for _, f := range strings.Fields(s) {
		k, v, _ := strings.Cut(f, "=")
		k, gone := strings.CutPrefix(k, "-")
		l = append(l, commits.Write{Key: k, Value: v, Gone: gone})
	}
	return l
}

// list is rows, each as key=value.
func list(s string) []api.Row {
	var l []api.Row
	for _, w := range writes(s) {
		l = append(l, api.Row{Key: w.Key, Value: w.Value})
	}
	return l
}

// told is rows as a text.
func told(l []api.Row) string {
	var s []string
	for _, r := range l {
		s = append(s, r.Key+"="+r.Value)
	}
	return strings.Join(s, " ")
}

// most is after how many steps something is given up.
const most = 20000

// steps makes steps until nothing is pending, and returns how many these were, and the result.
func steps(t *testing.T, s txn.Store, c *txn.Client) (int, txn.Result) {
	t.Helper()
	n := 0
	for c.Pending() {
		if r, err := c.Result(); !reflect.DeepEqual(r, txn.Result{}) || err != error(api.ErrBusy) {
			t.Fatalf("while something is pending Result is %v, %v", r, err)
		}
		was := s.Mem.Count()
		if finished := c.Step(s); finished == c.Pending() || s.Mem.Count() > was+1 {
			t.Fatalf("a step is %v, Pending is %v, and there are %d accesses", finished, c.Pending(), s.Mem.Count()-was)
		}
		if n++; n > most {
			t.Fatal("no end")
		}
	}
	r, err := c.Result()
	if err != nil {
		t.Fatal(err)
	}
	return n, r
}

// does finishes what was begun without an error.
func does(t *testing.T, s txn.Store, c *txn.Client, err error) txn.Result {
	t.Helper()
	if err != nil {
		t.Fatal("refused:", err)
	}
	_, r := steps(t, s, c)
	return r
}

// begun is a client that has begun a transaction.
func begun(t *testing.T, s txn.Store, n int, reads bool) *txn.Client {
	t.Helper()
	c := txn.NewClient(n)
	if r := does(t, s, c, c.Begin(reads)); r.Err != nil || !c.Inside() {
		t.Fatal("Begin:", r)
	}
	return c
}

// records records writes of a transaction.
func records(t *testing.T, c *txn.Client, text string) {
	t.Helper()
	for _, w := range writes(text) {
		err := c.Put(api.Row{Key: w.Key, Value: w.Value})
		if w.Gone {
			err = c.Drop(w.Key)
		}
		if err != nil || c.Pending() {
			t.Fatal(w, err, c.Pending())
		}
	}
}

// sorted is writes by increasing keys.
func sorted(s string) []commits.Write {
	return slices.SortedFunc(slices.Values(writes(s)), func(a, b commits.Write) int { return strings.Compare(a.Key, b.Key) })
}

// commit commits texts, by whoever.
func commit(t *testing.T, s txn.Store, texts ...string) {
	t.Helper()
	for _, x := range texts {
		if ok, err := s.Table.Append(s.Table.Last(), sorted(x)); !ok || err != nil {
			t.Fatal(x, ok, err)
		}
	}
}

// flush puts so many commits into the tree, by client 2.
func flush(t *testing.T, s txn.Store, times int) {
	t.Helper()
	c := txn.NewClient(2)
	for range times {
		n := s.Table.Base() + 1
		if r := does(t, s, c, c.Flush()); r.Number != n || r.Err != nil {
			t.Fatal("Flush:", r)
		}
	}
}

// filled is a store with commits, of which the first ones, up to base, are in the tree.
func filled(t *testing.T, base int, texts ...string) txn.Store {
	t.Helper()
	s := store(t, limits())
	commit(t, s, texts...)
	flush(t, s, base)
	return s
}

// marked asks for the marks of the first threads.
func marked(t *testing.T, s txn.Store, marks ...int) {
	t.Helper()
	for n, want := range marks {
		if got, err := s.Table.Marked(n); got != want || err != nil {
			t.Fatalf("Marked(%d) is %d, %v, not %d", n, got, err, want)
		}
	}
}

// is asks for a result.
func is(t *testing.T, name string, got, want txn.Result) {
	t.Helper()
	if len(got.Rows) == 0 && len(want.Rows) == 0 {
		got.Rows, want.Rows = nil, nil
	}
	if !reflect.DeepEqual(got, want) {
		t.Errorf("%s: the result is %+v, not %+v", name, got, want)
	}
}

// idle asks that a step makes no access, as nothing is pending.
func idle(t *testing.T, s txn.Store, c *txn.Client) {
	t.Helper()
	was := copied(s)
	if !c.Step(s) || c.Pending() || !reflect.DeepEqual(s, was) {
		t.Error("a step of a client with nothing to do is false, or makes an access")
	}
}

// P17.1: stores and clients.

func TestNewStore(t *testing.T) {
	for _, l := range []api.Limits{
		limits(),
		{Slots: 4, Pages: 3, Threads: 1, Rows: 2, Chain: 2, Count: 8},
		{Slots: api.MaxSlots, Pages: api.MaxPages, Threads: api.MaxThreads, Rows: api.MaxRows, Chain: api.MaxChain, Count: api.MaxCount},
	} {
		s, err := txn.NewStore(l)
		m, _ := mem.New(l)
		if err != nil || !reflect.DeepEqual(s, txn.Store{Mem: m, Table: commits.New(l.Threads, l.Count)}) {
			t.Errorf("NewStore of %v: %v, %v", l, s, err)
		}
	}
	for _, change := range []func(*api.Limits){
		func(l *api.Limits) { *l = api.Limits{} },
		func(l *api.Limits) { l.Slots = 3 }, func(l *api.Limits) { l.Slots = api.MaxSlots + 1 },
		func(l *api.Limits) { l.Pages = 2 }, func(l *api.Limits) { l.Pages = api.MaxPages + 1 },
		func(l *api.Limits) { l.Threads = 0 }, func(l *api.Limits) { l.Threads = api.MaxThreads + 1 },
		func(l *api.Limits) { l.Rows = 1 }, func(l *api.Limits) { l.Chain = 1 },
		func(l *api.Limits) { l.Count = 7 }, func(l *api.Limits) { l.Count = api.MaxCount + 1 },
		func(l *api.Limits) { l.Count = math.MinInt }, func(l *api.Limits) { l.Threads = math.MaxInt },
	} {
		l := limits()
		change(&l)
		if s, err := txn.NewStore(l); s != (txn.Store{}) || err != error(api.ErrArg) {
			t.Errorf("NewStore of %v: %v, %v", l, s, err)
		}
	}
}

func TestStoresAreIndependent(t *testing.T) {
	s, x := store(t, limits()), store(t, limits())
	was := copied(x)
	commit(t, s, "a=1")
	flush(t, s, 1)
	if !reflect.DeepEqual(x, was) {
		t.Error("a flush changes another store")
	}
}

func TestNewClient(t *testing.T) {
	for _, n := range []int{0, 1, 2, 63, 64, -1, math.MaxInt, math.MinInt} {
		c := txn.NewClient(n)
		if c == nil || c.Pending() || c.Inside() {
			t.Fatalf("client %d: %v", n, c)
		}
		if r, err := c.Result(); !reflect.DeepEqual(r, txn.Result{}) || err != error(api.ErrState) {
			t.Errorf("client %d: Result is %v, %v", n, r, err)
		}
		idle(t, store(t, limits()), c)
		if !c.Step(txn.Store{}) {
			t.Errorf("client %d: a step without a store is false", n)
		}
	}
}

// refusal is a method, and what it returns besides for a client that may do that.
type refusal struct {
	name    string
	call    func(c *txn.Client) error
	outside bool     // whether there must be no transaction
	reads   api.Code // if the transaction only reads
	writes  api.Code // otherwise
}

// refusals are all methods with arguments that may be, and with others.
func refusals() []refusal {
	get := func(key string) func(*txn.Client) error {
		return func(c *txn.Client) error { return c.Get(key) }
	}
	put := func(key, value string) func(*txn.Client) error {
		return func(c *txn.Client) error { return c.Put(api.Row{Key: key, Value: value}) }
	}
	drop := func(key string) func(*txn.Client) error {
		return func(c *txn.Client) error { return c.Drop(key) }
	}
	ranged := func(s bkey.Span) func(*txn.Client) error {
		return func(c *txn.Client) error { return c.Range(s, 1, true) }
	}
	const arg, readOnly = api.ErrArg, api.ErrReadOnly
	return []refusal{
		{"Begin", func(c *txn.Client) error { return c.Begin(false) }, true, 0, 0},
		{"Begin of one that only reads", func(c *txn.Client) error { return c.Begin(true) }, true, 0, 0},
		{"Flush", (*txn.Client).Flush, true, 0, 0},
		{"Commit", (*txn.Client).Commit, false, 0, 0},
		{"Abort", (*txn.Client).Abort, false, 0, 0},
		{"Get", get("a"), false, 0, 0},
		{"Get of 16 bytes", get(text(16)), false, 0, 0},
		{"Get of no bytes", get(""), false, arg, arg},
		{"Get of 17 bytes", get(text(17)), false, arg, arg},
		{"Get of many bytes", get(text(1 << 20)), false, arg, arg},
		{"Put", put("a", "1"), false, readOnly, 0},
		{"Put of 16 bytes", put(text(16), text(16)), false, readOnly, 0},
		{"Put of an empty value", put("\x00", ""), false, readOnly, 0},
		{"Put of no key", put("", "1"), false, readOnly, arg},
		{"Put of nothing", put("", ""), false, readOnly, arg},
		{"Put of a key of 17 bytes", put(text(17), "1"), false, readOnly, arg},
		{"Put of a value of 17 bytes", put("a", text(17)), false, readOnly, arg},
		{"Put of a value of 9 runes, but 18 bytes", put("a", strings.Repeat("é", 9)), false, readOnly, arg},
		{"Drop", drop("a"), false, readOnly, 0},
		{"Drop of 16 bytes", drop(text(16)), false, readOnly, 0},
		{"Drop of no bytes", drop(""), false, readOnly, arg},
		{"Drop of 17 bytes", drop(text(17)), false, readOnly, arg},
		{"Range", ranged(span("a", "b")), false, 0, 0},
		{"Range of all", ranged(span("", "")), false, 0, 0},
		{"Range from on", ranged(span("a", "")), false, 0, 0},
		{"Range up to", ranged(span("", "\x00")), false, 0, 0},
		{"Range of 16 bytes", ranged(span("a", text(16))), false, 0, 0},
		{"Range of a low end of 16 bytes", ranged(span(text(16), "")), false, 0, 0},
		{"Range of the zero span", ranged(bkey.Span{}), false, arg, arg},
		{"Range of nothing", ranged(span("a", "a")), false, arg, arg},
		{"Range without a high end", ranged(bkey.Span{Low: "a"}), false, arg, arg},
		{"Range from after its high end", ranged(span("b", "a")), false, arg, arg},
		{"Range of an unbounded span with a high end", ranged(bkey.Span{High: "a", Unbounded: true}), false, arg, arg},
		{"Range of 17 bytes", ranged(span("a", text(17))), false, arg, arg},
		{"Range of a low end of 17 bytes", ranged(span(text(17), "")), false, arg, arg},
	}
}

func TestNilClient(t *testing.T) {
	var c *txn.Client
	for _, x := range refusals() {
		if err := x.call(c); err != error(api.ErrArg) {
			t.Errorf("%s: %v", x.name, err)
		}
	}
	s := store(t, limits())
	was := copied(s)
	if !c.Step(s) || !c.Step(txn.Store{}) || !reflect.DeepEqual(s, was) || c.Pending() || c.Inside() {
		t.Error("a nil client does something")
	}
	if r, err := c.Result(); !reflect.DeepEqual(r, txn.Result{}) || err != error(api.ErrArg) {
		t.Errorf("Result is %v, %v", r, err)
	}
}

func TestRefusedOutside(t *testing.T) {
	for _, x := range refusals() {
		s := store(t, limits())
		c := txn.NewClient(0)
		was := *c
		err := x.call(c)
		if x.outside {
			if err != nil || !c.Pending() {
				t.Errorf("%s: %v", x.name, err)
			}
			continue
		}
		if err != error(api.ErrState) || !reflect.DeepEqual(*c, was) {
			t.Errorf("%s, outside: %v", x.name, err)
		}
		does(t, s, c, c.Begin(false))
		does(t, s, c, c.Abort())
		was = *c
		if err := x.call(c); err != error(api.ErrState) || !reflect.DeepEqual(*c, was) {
			t.Errorf("%s, after a transaction: %v", x.name, err)
		}
	}
}

func TestRefusedInside(t *testing.T) {
	for _, reads := range []bool{false, true} {
		for _, x := range refusals() {
			s := filled(t, 1, "b=1")
			c := begun(t, s, 0, reads)
			want := map[bool]api.Code{false: x.writes, true: x.reads}[reads]
			if x.outside {
				want = api.ErrState
			}
			was := *c
			err := x.call(c)
			if code(err) != want {
				t.Errorf("%s, reads is %v: %v, not %v", x.name, reads, err, want)
			}
			if err != nil && (err != error(want) || !reflect.DeepEqual(*c, was)) {
				t.Errorf("%s, reads is %v: %v, and the client is another one", x.name, reads, err)
			}
			steps(t, s, c)
		}
	}
}

// Whatever is pending goes on as if nothing had been asked for.
func TestRefusedWhilePending(t *testing.T) {
	for k, pending := range []func(t *testing.T, s txn.Store) *txn.Client{
		func(t *testing.T, s txn.Store) *txn.Client {
			c := txn.NewClient(0)
			c.Begin(false)
			return c
		},
		func(t *testing.T, s txn.Store) *txn.Client {
			c := txn.NewClient(0)
			c.Flush()
			return c
		},
		func(t *testing.T, s txn.Store) *txn.Client {
			c := begun(t, s, 0, true)
			c.Get("a")
			return c
		},
		func(t *testing.T, s txn.Store) *txn.Client {
			c := begun(t, s, 0, false)
			records(t, c, "x=1")
			c.Range(span("", ""), 0, false)
			return c
		},
		func(t *testing.T, s txn.Store) *txn.Client {
			c := begun(t, s, 0, false)
			records(t, c, "x=1")
			c.Commit()
			return c
		},
		func(t *testing.T, s txn.Store) *txn.Client {
			c := begun(t, s, 0, false)
			c.Abort()
			return c
		},
	} {
		s := filled(t, 1, "a=1 b=2", "c=3")
		x := copied(s)
		c, d := pending(t, s), pending(t, x)
		for d.Pending() {
			for _, r := range refusals() {
				if err := r.call(c); err != error(api.ErrBusy) {
					t.Errorf("%d: %s: %v", k, r.name, err)
				}
			}
			if c.Step(s) != d.Step(x) || !reflect.DeepEqual(s, x) || c.Inside() != d.Inside() {
				t.Fatalf("%d: what was pending is disturbed", k)
			}
		}
		got, _ := c.Result()
		want, _ := d.Result()
		is(t, "disturbed", got, want)
	}
}

// P17.1: Begin.

func TestBeginAccessByAccess(t *testing.T) {
	for _, reads := range []bool{false, true} {
		s := filled(t, 1, "a=1", "b=2", "c=3")
		c := txn.NewClient(1)
		if err := c.Begin(reads); err != nil || !c.Pending() || c.Inside() {
			t.Fatal(err, c.Pending(), c.Inside())
		}
		marked(t, s, -1, -1, -1)
		c.Step(s)
		marked(t, s, -1, -1, -1)
		flush(t, s, 1) // the base is 1 for the client, as it was looked up before
		c.Step(s)
		marked(t, s, -1, 1, -1)
		commit(t, s, "d=4")
		c.Step(s)
		marked(t, s, -1, 1, -1)
		commit(t, s, "e=5") // too late to be in the snapshot
		if c.Inside() || !c.Pending() {
			t.Error("inside early")
		}
		was := s.Mem.Count()
		if !c.Step(s) || !c.Inside() || c.Pending() || s.Mem.Count() != was {
			t.Error("not inside after four accesses of the table")
		}
		marked(t, s, -1, 4, -1)
		r, err := c.Result()
		is(t, "Begin", r, txn.Result{Number: 4})
		if err != nil || s.Table.Last() != 5 || s.Table.Base() != 2 {
			t.Error(err, s.Table)
		}
		idle(t, s, c)
	}
}

// Example 1.
func TestFourNoneThree(t *testing.T) {
	s := store(t, limits())
	c := txn.NewClient(0)
	c.Begin(false)
	n, r := steps(t, s, c)
	is(t, "Begin", r, txn.Result{})
	if n != 4 {
		t.Error("Begin:", n)
	}
	if err := c.Put(api.Row{Key: "a", Value: "1"}); err != nil || c.Pending() {
		t.Error("Put:", err, c.Pending())
	}
	c.Commit()
	n, r = steps(t, s, c)
	is(t, "Commit", r, txn.Result{Number: 1})
	if n != 3 {
		t.Error("Commit:", n)
	}
}

func TestBeginOfAThreadThatThereIsNot(t *testing.T) {
	for _, n := range []int{3, 64, -1, math.MaxInt, math.MinInt} {
		s := filled(t, 0, "a=1")
		was := copied(s)
		c := txn.NewClient(n)
		c.Begin(false)
		k, r := steps(t, s, c)
		is(t, "Begin", r, txn.Result{Err: api.ErrArg})
		if k != 2 || c.Inside() || !reflect.DeepEqual(s, was) {
			t.Errorf("client %d: %d steps, Inside is %v", n, k, c.Inside())
		}
		if err := c.Get("a"); err != error(api.ErrState) {
			t.Error("Get:", err)
		}
		if r := does(t, s, c, c.Begin(true)); code(r.Err) != api.ErrArg {
			t.Error("Begin again:", r)
		}
	}
}

// A store whose table has less threads than its memory is not from NewStore.
func TestTheSecondMarkOfBegin(t *testing.T) {
	s := filled(t, 0, "a=1")
	c := txn.NewClient(1)
	c.Begin(false)
	for range 3 {
		c.Step(s)
	}
	s.Table = commits.New(1, 9)
	_, r := steps(t, s, c)
	is(t, "Begin", r, txn.Result{Err: api.ErrArg})
	if c.Inside() {
		t.Error("inside")
	}
}

func TestNoStore(t *testing.T) {
	c := txn.NewClient(0)
	for _, err := range []error{c.Begin(false), nil} {
		if r := does(t, txn.Store{}, c, err); code(r.Err) != api.ErrArg || c.Inside() {
			t.Error(r)
		}
	}
	if r := does(t, txn.Store{}, c, c.Flush()); code(r.Err) != api.ErrArg {
		t.Error("Flush:", r)
	}
	for k, err := range []func(*txn.Client) error{
		func(c *txn.Client) error { return c.Get("a") },
		func(c *txn.Client) error { return c.Range(span("", ""), 0, false) },
		(*txn.Client).Commit,
	} {
		c := begun(t, filled(t, 0, "a=1"), 0, false)
		records(t, c, "x=1")
		if r := does(t, txn.Store{}, c, err(c)); code(r.Err) != api.ErrArg {
			t.Error(k, r)
		}
	}
}

// P17.1: Put and Drop.

func TestTheLastWriteOfEachKey(t *testing.T) {
	for _, c := range []struct{ text, want string }{
		{"a=1", "a=1"},
		{"-a", "-a"},
		{"a=", "a="},
		{"b=1 a=2", "a=2 b=1"},
		{"c=1 a=2 b=3", "a=2 b=3 c=1"},
		{"a=1 b=2 c=3", "a=1 b=2 c=3"},
		{"a=1 a=2", "a=2"},
		{"a=1 -a", "-a"},
		{"-a a=1", "a=1"},
		{"-a -a", "-a"},
		{"b=1 a=2 -b c=3 a=4 b=5 -c", "a=4 b=5 -c"},
		{"ab=1 a=2 b=3 abc=4 B=5", "B=5 a=2 ab=1 abc=4 b=3"},
	} {
		s := store(t, limits())
		x := begun(t, s, 0, false)
		was := copied(s)
		records(t, x, c.text)
		if r, err := x.Result(); r.Err != nil || err != nil || !reflect.DeepEqual(s, was) {
			t.Error("writes wait for something:", r, err)
		}
		does(t, s, x, x.Commit())
		if l, err := s.Table.At(1); !slices.Equal(l, writes(c.want)) || err != nil {
			t.Errorf("%s is %v, %v, not %s", c.text, l, err, c.want)
		}
	}
}

func TestARefusedWriteIsNotRecorded(t *testing.T) {
	s := store(t, limits())
	c := begun(t, s, 0, false)
	records(t, c, "a=1")
	for _, err := range []error{c.Put(api.Row{Key: "a", Value: text(17)}), c.Put(api.Row{}), c.Drop(""), c.Drop(text(17)), c.Put(api.Row{Key: text(17)})} {
		if err != error(api.ErrArg) {
			t.Error(err)
		}
	}
	does(t, s, c, c.Commit())
	if l, err := s.Table.At(1); !slices.Equal(l, writes("a=1")) || err != nil {
		t.Error(l, err)
	}
	c = begun(t, s, 0, true)
	if c.Put(api.Row{Key: "a", Value: "2"}) != error(api.ErrReadOnly) || c.Drop("a") != error(api.ErrReadOnly) {
		t.Error("a write of one that only reads")
	}
	is(t, "Get", does(t, s, c, c.Get("a")), txn.Result{Value: "1", There: true})
	is(t, "Commit", does(t, s, c, c.Commit()), txn.Result{Number: 1})
}

// Puts and drops have no results: the last one is that of what was done before.
func TestWritesHaveNoResults(t *testing.T) {
	s := filled(t, 0, "a=1")
	c := begun(t, s, 0, false)
	records(t, c, "a=2 -b")
	r, err := c.Result()
	is(t, "after Begin", r, txn.Result{Number: 1})
	if err != nil {
		t.Error(err)
	}
	does(t, s, c, c.Get("c"))
	does(t, s, c, c.Get("a"))
	records(t, c, "a=3")
	r, err = c.Result()
	is(t, "after Get", r, txn.Result{Value: "2", There: true})
	if err != nil {
		t.Error(err)
	}
}

// Copies.

// A client that was copied as a value goes on by itself.
func TestACopyOfAClient(t *testing.T) {
	for _, pending := range []func(c *txn.Client) error{
		func(c *txn.Client) error { return c.Get("b") },
		func(c *txn.Client) error { return c.Range(span("", ""), 0, true) },
		(*txn.Client).Commit,
		(*txn.Client).Abort,
		func(c *txn.Client) error { return nil },
	} {
		for n := range 40 {
			s := filled(t, 1, "a=1 b=2 c=3 d=4 e=5", "f=6", "g=7")
			c := begun(t, s, 0, false)
			does(t, s, c, c.Get("e"))
			records(t, c, "m=1 z=2")
			if err := pending(c); err != nil {
				t.Fatal(err)
			}
			for range n {
				c.Step(s)
			}
			d, e, x, y := *c, *c, copied(s), copied(s)
			want, inside := finished(t, s, c)
			got, in := interrupted(t, x, y, &d, &e)
			is(t, "a copy", got, want)
			if in != inside || !reflect.DeepEqual(s, x) {
				t.Fatal("a copy does something else")
			}
		}
	}
}

// finished finishes what a client has pending, and commits another write if it is inside then.
func finished(t *testing.T, s txn.Store, c *txn.Client) (txn.Result, bool) {
	t.Helper()
	_, r := steps(t, s, c)
	inside := c.Inside()
	if inside {
		records(t, c, "n=3 -z")
		does(t, s, c, c.Range(span("f", ""), 0, false))
		does(t, s, c, c.Commit())
	}
	return r, inside
}

// interrupted is finished for a client whose copy does much else, in another store, between its steps.
func interrupted(t *testing.T, s, other txn.Store, c, copy *txn.Client) (txn.Result, bool) {
	t.Helper()
	commit(t, other, "c=9", "-a")
	for c.Pending() {
		copy.Step(other)
		c.Step(s)
	}
	does(t, other, copy, nil)
	if copy.Inside() {
		records(t, copy, "a=7 n=7 -m")
		does(t, other, copy, copy.Get("k"))
		does(t, other, copy, copy.Range(span("k", "l"), 0, false))
		does(t, other, copy, copy.Commit())
	}
	does(t, other, copy, copy.Flush())
	return finished(t, s, c)
}

// What a copy reads and writes is its own, too.
func TestACopyOfATransaction(t *testing.T) {
	for _, c := range []struct {
		key, span, write string // of the client, and with a letter behind them of its copy
		others           string // what somebody commits
		clash            bool
	}{
		{"p", "q", "r", "p=2", true}, {"p", "q", "r", "q=2", true}, {"p", "q", "r", "pc=2 qc=2 r=2 rc=2", false},
	} {
		for n := range 6 {
			s := filled(t, 0, "a=1")
			x := begun(t, s, 0, false)
			for k := range n {
				key := string([]byte{byte('a' + k)})
				does(t, s, x, x.Get(key))
				does(t, s, x, x.Range(span(key, key+"0"), 0, false))
				records(t, x, "w"+key+"=1")
			}
			y := *x
			for i, z := range []*txn.Client{x, &y} {
				behind := []string{"", "c"}[i]
				does(t, s, z, z.Get(c.key+behind))
				does(t, s, z, z.Range(span(c.span+behind, c.span+behind+"0"), 0, false))
				records(t, z, c.write+behind+"=1")
			}
			for i, z := range []*txn.Client{x, &y} {
				own := copied(s)
				commit(t, own, c.others)
				r := does(t, own, z, z.Commit())
				if want := c.clash && i == 0 || !c.clash && i == 1; (code(r.Err) == api.ErrConflict) != want {
					t.Errorf("%d reads, %s, copied is %v: %+v", n, c.others, i == 1, r)
				}
				if l, err := own.Table.At(3); r.Err == nil && (err != nil || len(l) != n+1 || l[0].Key != c.write+[]string{"", "c"}[i]) {
					t.Errorf("%d writes, %s, copied is %v: %v, %v", n, c.others, i == 1, l, err)
				}
			}
		}
	}
}

// Memory.

func TestResultsShareNoMemory(t *testing.T) {
	for _, reverse := range []bool{false, true} {
		s := filled(t, 1, "a=1 b=2 c=3", "d=4")
		c := begun(t, s, 0, false)
		records(t, c, "e=5")
		does(t, s, c, c.Range(span("", ""), 0, reverse))
		want := "a=1 b=2 c=3 d=4 e=5"
		if reverse {
			want = "e=5 d=4 c=3 b=2 a=1"
		}
		for range 3 {
			r, err := c.Result()
			if told(r.Rows) != want || err != nil {
				t.Fatal(r, err)
			}
			for i := range r.Rows[:cap(r.Rows)] {
				r.Rows[:cap(r.Rows)][i] = api.Row{Key: "spoiled"}
			}
		}
		does(t, s, c, c.Commit())
		flush(t, s, 2)
		l, err := tree.Scan(s.Mem)
		if told(l) != "a=1 b=2 c=3 d=4 e=5" || err != nil {
			t.Error(l, err)
		}
	}
}
