package install_test

import (
	"errors"
	"math"
	"reflect"
	"slices"
	"strconv"
	"strings"
	"testing"

	"rowlock/api"
	"rowlock/install"
	"rowlock/mem"
)

// making is what makes the records of a job.
type making = func(pages []int) ([]api.Record, api.Record)

func ref(slot, gen int) api.Ref { return api.Ref{Slot: slot, Gen: gen} }

// memory is a new memory of so many slots and pages.
func memory(t *testing.T, slots, pages int) *mem.Memory {
	t.Helper()
	m, err := mem.New(api.Limits{Slots: slots, Pages: pages, Threads: 1, Rows: 4, Chain: 4, Count: 20})
	if err != nil {
		t.Fatal(err)
	}
	return m
}

// root is the head of page 0, which is looked up in a copy, as that is no access.
func root(m *mem.Memory) api.Ref {
	x, _ := m.Copy().Head(0)
	return x
}

// base is the record that bases makes for a new page, but for its Next.
func base(page int) api.Record {
	return api.Record{Kind: api.LeafBase, Low: "k" + strconv.Itoa(page), Unbounded: true, Right: page}
}

// front is the record that bases makes for the head.
func front(pages []int, old api.Ref) api.Record {
	return api.Record{Kind: api.LeafPut, Key: "a", Value: strconv.Itoa(len(pages)), Next: old}
}

// bases makes a base for each new page, with a Next that is not to be kept, and a put in front of old.
func bases(old api.Ref) making {
	return func(pages []int) ([]api.Record, api.Record) {
		var news []api.Record
		for _, n := range pages {
			r := base(n)
			r.Next = old
			news = append(news, r)
		}
		return news, front(pages, old)
	}
}

// job is a change of page 0 as it is now, with so many new pages.
func job(m *mem.Memory, news int) install.Job {
	return install.Job{Old: root(m), News: news, Make: bases(root(m))}
}

// state is a memory in a few words: the used pages with their heads, and the live slots.
func state(m *mem.Memory) string {
	var words []string
	c := m.Copy()
	for _, n := range m.Pages() {
		x, _ := c.Head(n)
		words = append(words, strconv.Itoa(n)+"="+text(x))
	}
	words = append(words, "|")
	for _, x := range m.Live() {
		words = append(words, text(x))
	}
	return strings.Join(words, " ")
}

// text is a ref in a few words.
func text(x api.Ref) string {
	if x == (api.Ref{}) {
		return "-"
	}
	return strconv.Itoa(x.Slot) + "." + strconv.Itoa(x.Gen)
}

// holds asks how a memory is.
func holds(t *testing.T, name string, m *mem.Memory, want string) {
	t.Helper()
	if got := state(m); got != want {
		t.Errorf("%s: the memory is %q, not %q", name, got, want)
	}
}

// steps lets an installer finish, and returns how many steps this took. Each of them makes one access.
func steps(t *testing.T, i *install.Installer, m *mem.Memory) int {
	t.Helper()
	for n := range 50 {
		if i.Over() {
			return n
		}
		was := m.Count()
		over := i.Step(m)
		if over != i.Over() {
			t.Fatalf("Step %d is %v, but Over %v", n, over, !over)
		}
		if m.Count() != was+1 {
			t.Fatalf("Step %d makes %d accesses", n, m.Count()-was)
		}
	}
	t.Fatal("the installer does not finish")
	return 0
}

// takes asks how many steps an installer takes.
func takes(t *testing.T, name string, i *install.Installer, m *mem.Memory, want int) {
	t.Helper()
	if n := steps(t, i, m); n != want {
		t.Errorf("%s: %d steps, not %d", name, n, want)
	}
}

// succeeds asks that an installer has finished with success.
func succeeds(t *testing.T, name string, i *install.Installer, head api.Ref, pages ...int) {
	t.Helper()
	if ok, err := i.Done(); !i.Over() || !ok || err != nil {
		t.Errorf("%s: Over is %v, and Done %v, %v", name, i.Over(), ok, err)
	}
	if i.Head() != head || !slices.Equal(i.Pages(), pages) {
		t.Errorf("%s: %v and %v, not %v and %v", name, i.Head(), i.Pages(), head, pages)
	}
}

// fails asks that an installer has finished without success, with just this error.
func fails(t *testing.T, name string, i *install.Installer, want error) {
	t.Helper()
	if ok, err := i.Done(); !i.Over() || ok || !reflect.DeepEqual(err, want) {
		t.Errorf("%s: Over is %v, and Done %v, %v, not %v", name, i.Over(), ok, err, want)
	}
	none(t, name, i)
}

// works asks that an installer has not finished.
func works(t *testing.T, name string, i *install.Installer) {
	t.Helper()
	if ok, err := i.Done(); i.Over() || ok || err != error(api.ErrBusy) {
		t.Errorf("%s: Over is %v, and Done %v, %v", name, i.Over(), ok, err)
	}
	none(t, name, i)
}

// none asks that there are no results.
func none(t *testing.T, name string, i *install.Installer) {
	t.Helper()
	if i.Head() != (api.Ref{}) || len(i.Pages()) != 0 {
		t.Errorf("%s: %v and %v", name, i.Head(), i.Pages())
	}
}

// in is a code as a memory returns it.
func in(place string, slot int, c api.Code) error {
	return &api.Fault{Place: place, Slot: slot, Err: c}
}

// write puts a record in front of a page, as another thread may.
func write(t *testing.T, m *mem.Memory, page int) {
	t.Helper()
	old, err := m.Head(page)
	if err != nil {
		t.Fatal(err)
	}
	x, err := m.Alloc(api.Record{Kind: api.LeafDel, Next: old})
	if ok, e := m.Swap(page, old, x); err != nil || !ok || e != nil {
		t.Fatal(err, ok, e)
	}
}

// fill leaves so many slots free.
func fill(t *testing.T, m *mem.Memory, free int) {
	t.Helper()
	for range m.Limits().Slots - len(m.Live()) - free {
		if _, err := m.Alloc(api.Record{}); err != nil {
			t.Fatal(err)
		}
	}
}

// records asks for the records of a page's chain.
func records(t *testing.T, name string, m *mem.Memory, page int, want ...api.Record) {
	t.Helper()
	got, _, err := m.Chain(page)
	if err != nil || !reflect.DeepEqual(got, want) {
		t.Errorf("%s: page %d is %+v, %v, not %+v", name, page, got, err, want)
	}
}

// first is the record with which every memory begins.
func first() api.Record { return api.Record{Kind: api.LeafBase, Unbounded: true} }

// P12.1, the accesses in order.

func TestStepByStep(t *testing.T) {
	m := memory(t, 9, 4)
	i := install.Begin(job(m, 2))
	works(t, "at first", i)
	holds(t, "at first", m, "0=1.1 | 1.1")
	l := []string{
		"0=1.1 1=- | 1.1",
		"0=1.1 1=- 2=- | 1.1",
		"0=1.1 1=- 2=- | 1.1 2.1",
		"0=1.1 1=- 2=- | 1.1 2.1 3.1",
		"0=1.1 1=2.1 2=- | 1.1 2.1 3.1",
		"0=1.1 1=2.1 2=3.1 | 1.1 2.1 3.1",
		"0=1.1 1=2.1 2=3.1 | 1.1 2.1 3.1 4.1",
		"0=4.1 1=2.1 2=3.1 | 1.1 2.1 3.1 4.1",
	}
	for k, want := range l {
		works(t, "before a step", i)
		if over := i.Step(m); over != (k == len(l)-1) || m.Count() != k+1 {
			t.Fatalf("Step %d is %v, after %d accesses", k, over, m.Count())
		}
		holds(t, "step "+strconv.Itoa(k), m, want)
	}
	succeeds(t, "at last", i, ref(4, 1), 1, 2)
	records(t, "at last", m, 0, front([]int{1, 2}, ref(1, 1)), first())
	records(t, "at last", m, 1, base(1))
	records(t, "at last", m, 2, base(2))
}

func TestUndoingStepByStep(t *testing.T) {
	m := memory(t, 9, 4)
	i := install.Begin(job(m, 2))
	for range 7 {
		i.Step(m)
	}
	write(t, m, 0)
	was := m.Count()
	l := []string{
		"0=5.1 1=2.1 2=3.1 | 1.1 2.1 3.1 4.1 5.1",
		"0=5.1 1=2.1 2=3.1 | 1.1 2.1 3.1 5.1",
		"0=5.1 1=2.1 2=3.1 | 1.1 2.1 5.1",
		"0=5.1 1=2.1 2=3.1 | 1.1 5.1",
		"0=5.1 1=2.1 | 1.1 5.1",
		"0=5.1 | 1.1 5.1",
	}
	for k, want := range l {
		works(t, "before a step", i)
		if over := i.Step(m); over != (k == len(l)-1) || m.Count() != was+k+1 {
			t.Fatalf("Step %d is %v, after %d accesses", k, over, m.Count()-was)
		}
		holds(t, "undoing, step "+strconv.Itoa(k), m, want)
	}
	fails(t, "undone", i, nil)
}

func TestAsManyNewPagesAsMayBe(t *testing.T) {
	for news := range 5 {
		name := strconv.Itoa(news) + " new pages"
		m := memory(t, 20, 9)
		i, late := install.Begin(job(m, news)), install.Begin(job(m, news))
		takes(t, name, i, m, 3*news+2)
		succeeds(t, name, i, ref(news+2, 1), []int{1, 2, 3, 4}[:news]...)
		if len(m.Live()) != news+2 || len(m.Pages()) != news+1 {
			t.Errorf("%s: %s", name, state(m))
		}
		fill(t, m, news+1)
		was := state(m)
		takes(t, name+", too late", late, m, 3*news+2+news+1+news)
		fails(t, name+", too late", late, nil)
		holds(t, name+", too late", m, was)
	}
}

// Example 1.

func TestWithoutNewPages(t *testing.T) {
	m := memory(t, 4, 3)
	i, late := install.Begin(job(m, 0)), install.Begin(job(m, 0))
	takes(t, "in time", i, m, 2)
	succeeds(t, "in time", i, ref(2, 1))
	records(t, "in time", m, 0, front(nil, ref(1, 1)), first())
	takes(t, "too late", late, m, 3)
	fails(t, "too late", late, nil)
	holds(t, "too late", m, "0=2.1 | 1.1 2.1")
}

func TestAnyPage(t *testing.T) {
	m := memory(t, 9, 9)
	steps(t, install.Begin(job(m, 2)), m)
	old, _ := m.Head(2)
	i := install.Begin(install.Job{Page: 2, Old: old, News: 1, Make: bases(old)})
	takes(t, "page 2", i, m, 5)
	succeeds(t, "page 2", i, ref(6, 1), 3)
	records(t, "page 2", m, 2, front([]int{3}, old), base(2))
	holds(t, "page 2", m, "0=4.1 1=2.1 2=6.1 3=5.1 | 1.1 2.1 3.1 4.1 5.1 6.1")

	n, _ := m.Take()
	i = install.Begin(install.Job{Page: n, Make: bases(api.Ref{})})
	takes(t, "a page without a head", i, m, 2)
	succeeds(t, "a page without a head", i, ref(7, 1))
	records(t, "a page without a head", m, n, front(nil, api.Ref{}))
}

// P12.1, Make.

// full is a record none of whose fields is zero.
func full() api.Record {
	return api.Record{
		Kind: 99, Low: "low", High: "high", Unbounded: true, Right: -1,
		Rows:    []api.Row{{Key: "b", Value: "1"}, {Key: "a"}},
		Entries: []api.Entry{{Key: "c", Page: 1 << 40}, {Page: -1}},
		Key:     strings.Repeat("k", 100), Value: "value", Page: -2,
		Hold: api.Hold{Page: 3, Left: 4, Key: "hold"},
		Next: ref(1, 1),
	}
}

func TestMakeIsCalledOnce(t *testing.T) {
	for news := range 5 {
		m := memory(t, 9, 9)
		var calls [][]int
		j := job(m, news)
		make := j.Make
		j.Make = func(pages []int) ([]api.Record, api.Record) {
			calls = append(calls, slices.Clone(pages))
			if len(m.Live()) != 1 || len(m.Pages()) != news+1 {
				t.Errorf("%d new pages: %q when Make is called", news, state(m))
			}
			return make(pages)
		}
		i := install.Begin(j)
		for range news {
			i.Step(m)
		}
		steps(t, i, m)
		i.Step(m)
		if len(calls) != 1 || !slices.Equal(calls[0], []int{1, 2, 3, 4}[:news]) {
			t.Errorf("%d new pages: Make is called with %v", news, calls)
		}
	}
}

func TestMakeIsNotCalledWithoutPages(t *testing.T) {
	m := memory(t, 9, 3)
	j := job(m, 3)
	j.Make = func([]int) ([]api.Record, api.Record) {
		t.Error("Make is called")
		return nil, api.Record{}
	}
	i := install.Begin(j)
	takes(t, "no page", i, m, 5)
	fails(t, "no page", i, in("table", 0, api.ErrFull))
	install.Begin(install.Job{News: 5, Make: j.Make}).Step(m)
	install.Begin(install.Job{News: -1, Make: j.Make}).Step(m)
	install.Begin(job(m, 1))
	holds(t, "no page", m, "0=1.1 | 1.1")
}

func TestMakeReturnsTooFewRecords(t *testing.T) {
	m := memory(t, 9, 9)
	i := install.Begin(install.Job{Old: root(m), News: 3, Make: func(pages []int) ([]api.Record, api.Record) {
		return []api.Record{base(7)}, api.Record{}
	}})
	takes(t, "too few", i, m, 11)
	succeeds(t, "too few", i, ref(5, 1), 1, 2, 3)
	records(t, "too few", m, 1, base(7))
	records(t, "too few", m, 2, api.Record{})
	records(t, "too few", m, 3, api.Record{})
	records(t, "too few", m, 0, api.Record{})

	m = memory(t, 9, 9)
	i = install.Begin(install.Job{Old: root(m), News: 2, Make: func([]int) ([]api.Record, api.Record) { return nil, full() }})
	takes(t, "none", i, m, 8)
	records(t, "none", m, 1, api.Record{})
	records(t, "none", m, 2, api.Record{})
	records(t, "none", m, 0, full(), first())
}

func TestMakeReturnsTooManyRecords(t *testing.T) {
	for news := range 5 {
		m := memory(t, 9, 9)
		var all []api.Record
		for n := range 1000 {
			all = append(all, base(n))
		}
		i := install.Begin(install.Job{Old: root(m), News: news, Make: func([]int) ([]api.Record, api.Record) { return all, full() }})
		takes(t, "too many", i, m, 3*news+2)
		for n := range news {
			records(t, "too many", m, n+1, base(n))
		}
		records(t, "too many", m, 0, full(), first())
		if len(m.Live()) != news+2 {
			t.Errorf("%d new pages: %q", news, state(m))
		}
	}
}

func TestRecordsAreUsedAsTheyAreMade(t *testing.T) {
	m := memory(t, 9, 9)
	i := install.Begin(install.Job{Old: root(m), News: 1, Make: func([]int) ([]api.Record, api.Record) { return []api.Record{full()}, full() }})
	steps(t, i, m)
	r := full()
	r.Next = api.Ref{}
	records(t, "a new page's", m, 1, r)
	records(t, "the head's", m, 0, full(), first())
}

func TestMakeChangesTheMemory(t *testing.T) {
	m := memory(t, 9, 9)
	j := job(m, 1)
	j.Make = func(pages []int) ([]api.Record, api.Record) {
		write(t, m, 0)
		return []api.Record{base(1)}, front(pages, ref(1, 1))
	}
	i := install.Begin(j)
	for !i.Step(m) {
	}
	fails(t, "a write in Make", i, nil)
	holds(t, "a write in Make", m, "0=2.1 | 1.1 2.1")
}

func TestMakePanics(t *testing.T) {
	for news := range 5 {
		for _, what := range []any{"why", nil, errors.New("why"), 0} {
			m := memory(t, 9, 9)
			i := install.Begin(install.Job{Old: root(m), News: news, Make: func([]int) ([]api.Record, api.Record) { panic(what) }})
			for n := 0; !i.Step(m); n++ {
				if n > 50 {
					t.Fatal("the installer does not finish")
				}
			}
			fails(t, "a panic", i, api.ErrArg)
			holds(t, "a panic", m, "0=1.1 | 1.1")
			if m.Count() != 2*news {
				t.Errorf("%d new pages: %d accesses", news, m.Count())
			}
		}
	}
}

func TestMakeStepsItsInstaller(t *testing.T) {
	for news := range 5 {
		for _, most := range []int{1, 2, 3, 100} {
			m := memory(t, 9, 9)
			var i *install.Installer
			calls := 0
			i = install.Begin(install.Job{Old: root(m), News: news, Make: func(pages []int) ([]api.Record, api.Record) {
				calls++
				for range most {
					i.Step(m)
				}
				return bases(ref(1, 1))(pages)
			}})
			for n := 0; !i.Step(m); n++ {
				if n > 50 {
					t.Fatal("the installer does not finish")
				}
			}
			fails(t, "steps in Make", i, api.ErrArg)
			holds(t, "steps in Make", m, "0=1.1 | 1.1")
			if calls != 1 {
				t.Errorf("%d new pages: Make is called %d times", news, calls)
			}
		}
	}
}

// P12.1, what starts undoing.

func TestNoPages(t *testing.T) {
	for pages := 3; pages <= 4; pages++ {
		m := memory(t, 9, pages)
		i := install.Begin(job(m, 4))
		takes(t, "some pages", i, m, 2*pages-1)
		fails(t, "some pages", i, in("table", 0, api.ErrFull))
		holds(t, "some pages", m, "0=1.1 | 1.1")
		for range pages - 1 {
			m.Take()
		}
		i = install.Begin(job(m, 1))
		takes(t, "no page", i, m, 1)
		fails(t, "no page", i, in("table", 0, api.ErrFull))
		i = install.Begin(job(m, 0))
		takes(t, "none needed", i, m, 2)
		succeeds(t, "none needed", i, ref(2, 1))
	}
}

func TestNoSlots(t *testing.T) {
	for news := range 5 {
		for free := range news + 1 {
			name := strconv.Itoa(news) + " new pages, " + strconv.Itoa(free) + " free slots"
			m := memory(t, 9, 9)
			fill(t, m, free)
			was := state(m)
			i := install.Begin(job(m, news))
			links := 0
			if free == news { // only the head's record has no slot, after all of the new pages are linked
				links = news
			}
			takes(t, name, i, m, news+free+links+1+free+news)
			fails(t, name, i, in("arena", 0, api.ErrFull))
			holds(t, name, m, was)
		}
	}
}

func TestSlotsAreWornOut(t *testing.T) {
	m := memory(t, 4, 4)
	for {
		x, err := m.Alloc(api.Record{})
		if err != nil {
			break
		}
		m.Free(x)
	}
	i := install.Begin(job(m, 0))
	takes(t, "worn out", i, m, 1)
	fails(t, "worn out", i, in("arena", 0, api.ErrExhausted))
	i = install.Begin(job(m, 2))
	takes(t, "worn out", i, m, 5)
	fails(t, "worn out", i, in("arena", 0, api.ErrExhausted))
	holds(t, "worn out", m, "0=1.1 | 1.1")
}

func TestPagesThatThereAreNot(t *testing.T) {
	for _, c := range []struct {
		page int
		code api.Code
	}{{3, api.ErrNone}, {1, api.ErrNone}, {4, api.ErrArg}, {-1, api.ErrArg}, {math.MinInt, api.ErrArg}, {math.MaxInt, api.ErrArg}} {
		m := memory(t, 9, 4)
		j := job(m, 0)
		j.Page = c.page
		i := install.Begin(j)
		takes(t, "no such page", i, m, 3)
		fails(t, "no such page", i, in("table", c.page, c.code))
		holds(t, "no such page", m, "0=1.1 | 1.1")
		j.News = 1
		i = install.Begin(j)
		takes(t, "no such page, and a new one", i, m, 8)
		if c.page == 1 { // by then it is the new one, with another head
			fails(t, "the new page", i, nil)
		} else {
			fails(t, "no such page, and a new one", i, in("table", c.page, c.code))
		}
		holds(t, "no such page, and a new one", m, "0=1.1 | 1.1")
	}
}

func TestHeadsThatThereAreNot(t *testing.T) {
	for _, old := range []api.Ref{{}, ref(1, 0), ref(1, 2), ref(2, 1), ref(-1, -1), ref(math.MaxInt, math.MinInt)} {
		m := memory(t, 9, 4)
		i := install.Begin(install.Job{Old: old, Make: bases(old)})
		takes(t, "another head", i, m, 3)
		fails(t, "another head", i, nil)
		holds(t, "another head", m, "0=1.1 | 1.1")
	}
}

func TestANewPageIsChanged(t *testing.T) {
	m := memory(t, 9, 9)
	i := install.Begin(job(m, 2))
	for range 5 {
		i.Step(m)
	}
	write(t, m, 2)
	takes(t, "a new page with a head", i, m, 5)
	fails(t, "a new page with a head", i, nil)
	holds(t, "a new page with a head", m, "0=1.1 | 1.1 4.1")

	m = memory(t, 9, 9)
	i = install.Begin(job(m, 2))
	for range 5 {
		i.Step(m)
	}
	m.Give(2)
	takes(t, "a new page is given back", i, m, 5)
	fails(t, "a new page is given back", i, in("table", 2, api.ErrNone))
	holds(t, "a new page is given back", m, "0=1.1 | 1.1")
}

func TestResultsOfUndoingAreIgnored(t *testing.T) {
	m := memory(t, 9, 9)
	i := install.Begin(job(m, 3))
	for range 10 {
		i.Step(m)
	}
	write(t, m, 0)
	i.Step(m)
	m.Free(ref(3, 1))
	m.Give(2)
	m.Give(1)
	takes(t, "undone by others", i, m, 7)
	fails(t, "undone by others", i, nil)
	holds(t, "undone by others", m, "0=6.1 | 1.1 6.1")

	m = memory(t, 4, 9)
	i = install.Begin(job(m, 3))
	for range 9 {
		i.Step(m)
	}
	m.Give(3)
	m.Give(2)
	fill(t, m, 0)
	steps(t, i, m)
	fails(t, "the first error stays", i, in("arena", 0, api.ErrFull))
}

// P12.1, Begin, and P12.2.

func TestJobsThatMayNotBe(t *testing.T) {
	m := memory(t, 9, 9)
	for k, j := range []install.Job{
		{}, {Old: ref(1, 1), News: 1}, {News: -1}, {News: 5},
		{Old: ref(1, 1), News: -1, Make: bases(ref(1, 1))}, {Old: ref(1, 1), News: 5, Make: bases(ref(1, 1))},
		{News: math.MinInt, Make: bases(ref(1, 1))}, {News: math.MaxInt, Make: bases(ref(1, 1))},
	} {
		i := install.Begin(j)
		name := "job " + strconv.Itoa(k)
		fails(t, name, i, api.ErrArg)
		if !i.Step(m) || !i.Step(nil) || m.Count() != 0 {
			t.Errorf("%s: %d accesses", name, m.Count())
		}
		fails(t, name, i, api.ErrArg)
	}
}

func TestNoInstaller(t *testing.T) {
	var i *install.Installer
	m := memory(t, 9, 9)
	if !i.Over() || !i.Step(m) || !i.Step(nil) || m.Count() != 0 {
		t.Errorf("%v, and %d accesses", i.Over(), m.Count())
	}
	fails(t, "nil", i, api.ErrArg)
}

func TestAnInstallerThatWasNotBegun(t *testing.T) {
	i := &install.Installer{}
	m := memory(t, 9, 9)
	takes(t, "zero", i, m, 0)
	i.Step(nil)
	i.Done()
	none(t, "zero", i)
}

func TestNoMemory(t *testing.T) {
	for news := range 5 {
		for ahead := range 3*news + 2 {
			m := memory(t, 9, 9)
			i := install.Begin(job(m, news))
			for range ahead {
				i.Step(m)
			}
			i.Step(nil)
			steps(t, i, m)
			fails(t, "no memory", i, api.ErrArg)
			holds(t, "no memory", m, "0=1.1 | 1.1")
		}
	}
	i := install.Begin(job(memory(t, 9, 9), 1))
	i.Step(nil)
	fails(t, "never a memory", i, api.ErrArg)
}

func TestStepsOfWhoHasFinished(t *testing.T) {
	m := memory(t, 9, 9)
	j := job(m, 1)
	i, late := install.Begin(j), install.Begin(j)
	steps(t, i, m)
	steps(t, late, m)
	was, count := state(m), m.Count()
	for range 3 {
		if !i.Step(m) || !late.Step(m) || m.Count() != count {
			t.Error("a step of an installer that has finished:", m.Count()-count)
		}
	}
	succeeds(t, "again", i, ref(3, 1), 1)
	fails(t, "again", late, nil)
	holds(t, "again", m, was)
}

// What the chapter says, access by access.

// result is what an installer has when it has finished.
type result struct {
	ok    bool
	err   error
	head  api.Ref
	pages []int
}

// others are what other threads do ahead of an access.
type others map[int]func(*mem.Memory)

// script does the accesses of a job in a row, and keeps what the memory is after each of them.
type script struct {
	m     *mem.Memory
	other others
	trace []*mem.Memory
}

// ahead lets the other threads do what they do ahead of the next access.
func (s *script) ahead() {
	if f := s.other[len(s.trace)]; f != nil {
		f(s.m)
	}
}

// behind keeps what the memory is.
func (s *script) behind() { s.trace = append(s.trace, s.m.Copy()) }

func (s *script) take() (int, error) {
	s.ahead()
	defer s.behind()
	return s.m.Take()
}

func (s *script) alloc(r api.Record) (api.Ref, error) {
	s.ahead()
	defer s.behind()
	return s.m.Alloc(r)
}

func (s *script) swap(page int, old, new api.Ref) (bool, error) {
	s.ahead()
	defer s.behind()
	return s.m.Swap(page, old, new)
}

func (s *script) undo(pages []int, refs []api.Ref, err error) result {
	for _, x := range slices.Backward(refs) {
		s.ahead()
		s.m.Free(x)
		s.behind()
	}
	for _, n := range slices.Backward(pages) {
		s.ahead()
		s.m.Give(n)
		s.behind()
	}
	return result{err: err}
}

// chapter is what chapter 12 says: a job whose records are those of bases.
func (s *script) chapter(j install.Job) result {
	var pages []int
	var refs []api.Ref
	for range j.News {
		n, err := s.take()
		if err != nil {
			return s.undo(pages, refs, err)
		}
		pages = append(pages, n)
	}
	for _, n := range pages {
		x, err := s.alloc(base(n))
		if err != nil {
			return s.undo(pages, refs, err)
		}
		refs = append(refs, x)
	}
	for k, n := range pages {
		if ok, err := s.swap(n, api.Ref{}, refs[k]); !ok {
			return s.undo(pages, refs, err)
		}
	}
	x, err := s.alloc(front(pages, j.Old))
	if err != nil {
		return s.undo(pages, refs, err)
	}
	if ok, err := s.swap(j.Page, j.Old, x); !ok {
		return s.undo(pages, append(refs, x), err)
	}
	return result{ok: true, head: x, pages: pages}
}

// disturbances are what other threads may do between two accesses, whether they ought to or not.
func disturbances() []func(*mem.Memory) {
	putOn := func(page int) func(*mem.Memory) {
		return func(m *mem.Memory) {
			old, _ := m.Head(page)
			x, _ := m.Alloc(api.Record{Kind: api.LeafDel, Next: old})
			m.Swap(page, old, x)
		}
	}
	l := []func(*mem.Memory){
		func(*mem.Memory) {},
		func(m *mem.Memory) { m.Take() },
		func(m *mem.Memory) { m.Take(); m.Take() },
		func(m *mem.Memory) { m.Alloc(full()) },
		func(m *mem.Memory) { m.Alloc(full()); m.Alloc(full()) },
		func(m *mem.Memory) {
			x, _ := m.Alloc(full())
			m.Free(x)
		},
	}
	for n := range 4 {
		l = append(l, putOn(n), func(m *mem.Memory) { m.Give(n) }, func(m *mem.Memory) {
			if live := m.Live(); n < len(live) {
				m.Free(live[n])
			}
		})
	}
	return l
}

// agrees asks that an installer does step by step what the chapter says.
func agrees(t *testing.T, name string, m *mem.Memory, news int, other others) result {
	t.Helper()
	j := job(m, news)
	s := &script{m: m.Copy(), other: other}
	want := s.chapter(j)
	i := install.Begin(j)
	for k, after := range s.trace {
		works(t, name, i)
		if f := other[k]; f != nil {
			f(m)
		}
		if over := i.Step(m); over != (k == len(s.trace)-1) {
			t.Fatalf("%s: Step %d is %v", name, k, over)
		}
		if !reflect.DeepEqual(m, after) {
			t.Fatalf("%s: %q after step %d, not %q", name, state(m), k, state(after))
		}
	}
	ok, err := i.Done()
	if got := (result{ok, err, i.Head(), i.Pages()}); got.ok != want.ok || !reflect.DeepEqual(got.err, want.err) || got.head != want.head || !slices.Equal(got.pages, want.pages) {
		t.Fatalf("%s: %+v, not %+v", name, got, want)
	}
	return want
}

func TestWhateverOthersDo(t *testing.T) {
	done := map[bool]int{}
	codes := map[api.Code]int{}
	l := disturbances()
	for news := range 5 {
		for _, size := range [][2]int{{9, 9}, {5, 4}, {4, 3}} {
			for k := range 3*news + 3 {
				for a, f := range l {
					for b, g := range l {
						name := strconv.Itoa(news) + " new pages, " + strconv.Itoa(a) + " ahead of " + strconv.Itoa(k) + ", and then " + strconv.Itoa(b)
						r := agrees(t, name, memory(t, size[0], size[1]), news, others{k: f, k + 2: g})
						var c api.Code
						errors.As(r.err, &c)
						done[r.ok]++
						codes[c]++
					}
				}
			}
		}
	}
	if done[true] == 0 || done[false] == 0 || codes[0] == 0 || codes[api.ErrFull] == 0 || codes[api.ErrNone] == 0 {
		t.Error("not all that may happen did:", done, codes)
	}
}

// P12.3.

func TestNothingIsLeftWithoutSuccess(t *testing.T) {
	for news := range 5 {
		for slots := 4; slots <= 9; slots++ {
			for pages := 3; pages <= 6; pages++ {
				for _, old := range []api.Ref{ref(1, 1), ref(2, 1), {}} {
					m := memory(t, slots, pages)
					i := install.Begin(install.Job{Old: old, News: news, Make: bases(old)})
					steps(t, i, m)
					ok, _ := i.Done()
					if want := old == ref(1, 1) && news < pages && news+2 <= slots; ok != want {
						t.Errorf("%d new pages, %d slots, %d pages, %v: %v", news, slots, pages, old, ok)
					}
					if ok {
						succeeds(t, "in time", i, ref(news+2, 1), []int{1, 2, 3, 4}[:news]...)
						continue
					}
					holds(t, "without success", m, "0=1.1 | 1.1")
				}
			}
		}
	}
}

// P12.4.

// interleave lets installers finish in every order, and calls with the memory and with all of them. An installer is copied as a value.
func interleave(m *mem.Memory, l []install.Installer, call func(m *mem.Memory, l []install.Installer)) {
	finished := true
	for k := range l {
		if l[k].Over() {
			continue
		}
		finished = false
		c, copies := m.Copy(), slices.Clone(l)
		copies[k].Step(c)
		interleave(c, copies, call)
	}
	if finished {
		call(m, l)
	}
}

// winners is how many installers succeeded, and how many new pages these have.
func winners(l []install.Installer) (int, int) {
	n, pages := 0, 0
	for k := range l {
		if ok, _ := l[k].Done(); ok {
			n++
			pages += len(l[k].Pages())
		}
	}
	return n, pages
}

func TestJustOneSucceeds(t *testing.T) {
	for _, news := range [][]int{{0}, {0, 0}, {0, 0, 0}, {1, 0}, {1, 1}, {2, 0}, {1, 0, 0}, {2, 1}} {
		for _, before := range []int{0, 1, 2} {
			m := memory(t, 20, 9)
			for range before {
				write(t, m, 0)
			}
			live := len(m.Live())
			var l []install.Installer
			for _, n := range news {
				l = append(l, *install.Begin(job(m, n)))
			}
			first := map[int]bool{}
			interleave(m, l, func(m *mem.Memory, l []install.Installer) {
				n, pages := winners(l)
				if n != 1 || len(m.Live()) != live+1+pages || len(m.Pages()) != 1+pages {
					t.Fatalf("%v: %d succeed, and then %q", news, n, state(m))
				}
				for k := range l {
					if ok, err := l[k].Done(); err != nil || ok != (l[k].Head() == root(m)) {
						t.Fatalf("%v: %v, %v, and %v is the head, not %v", news, ok, err, root(m), l[k].Head())
					} else if ok {
						first[k] = true
					}
				}
			})
			if len(first) != len(news) {
				t.Errorf("%v: only %v succeeded", news, first)
			}
		}
	}
}

func TestAtMostOneSucceedsWithLittleSpace(t *testing.T) {
	for _, news := range [][]int{{0, 0}, {1, 0}, {1, 1}, {2, 1}} {
		m := memory(t, 4, 3)
		var l []install.Installer
		for _, n := range news {
			l = append(l, *install.Begin(job(m, n)))
		}
		interleave(m, l, func(m *mem.Memory, l []install.Installer) {
			n, pages := winners(l)
			if n > 1 || len(m.Live()) != 1+n+pages || len(m.Pages()) != 1+pages {
				t.Fatalf("%v: %d succeed, and then %q", news, n, state(m))
			}
		})
	}
}

func TestOneAfterTheOther(t *testing.T) {
	m := memory(t, 20, 9)
	for n := range 6 {
		i := install.Begin(job(m, n%2))
		steps(t, i, m)
		if ok, err := i.Done(); !ok || err != nil || i.Head() != root(m) {
			t.Errorf("job %d: %v, %v", n, ok, err)
		}
	}
	l, _, err := m.Chain(0)
	if len(l) != 7 || err != nil || len(m.Pages()) != 4 {
		t.Errorf("%q, %v", state(m), err)
	}
}

// Arguments and results, and objects of their own.

func TestMakeMayChangeThePagesItIsGiven(t *testing.T) {
	m := memory(t, 9, 9)
	var given []int
	i := install.Begin(install.Job{Old: root(m), News: 2, Make: func(pages []int) ([]api.Record, api.Record) {
		given = pages
		news, head := bases(ref(1, 1))(pages)
		pages[0] = 0
		return news, head
	}})
	for over := false; !over; over = i.Step(m) {
		for k := range given {
			given[k] = 7
		}
		for k := range cap(given) {
			given[:cap(given)][k] = 8
		}
	}
	succeeds(t, "changed pages", i, ref(4, 1), 1, 2)
	records(t, "changed pages", m, 1, base(1))
	records(t, "changed pages", m, 2, base(2))
}

func TestMakeMayChangeTheRecordsItReturned(t *testing.T) {
	m := memory(t, 9, 9)
	news, head := []api.Record{full(), full()}, full()
	i := install.Begin(install.Job{Old: root(m), News: 2, Make: func([]int) ([]api.Record, api.Record) { return news, head }})
	for range 3 {
		i.Step(m)
	}
	for _, r := range append([]api.Record{head}, news...) {
		r.Rows[0], r.Entries[1] = api.Row{Key: "changed"}, api.Entry{Key: "changed"}
	}
	news[1] = api.Record{Kind: -1}
	steps(t, i, m)
	want := full()
	want.Next = api.Ref{}
	records(t, "changed records", m, 1, want)
	records(t, "changed records", m, 2, want)
	records(t, "changed records", m, 0, full(), first())
}

func TestRecordsOfMakeStayAsTheyAre(t *testing.T) {
	m := memory(t, 9, 9)
	news, head := []api.Record{full(), full(), full()}, full()
	i := install.Begin(install.Job{Old: root(m), News: 2, Make: func([]int) ([]api.Record, api.Record) { return news[:1], head }})
	steps(t, i, m)
	if !reflect.DeepEqual(news, []api.Record{full(), full(), full()}) || !reflect.DeepEqual(head, full()) {
		t.Errorf("%+v and %+v", news, head)
	}
}

func TestPagesAreNewMemory(t *testing.T) {
	m := memory(t, 9, 9)
	i := install.Begin(job(m, 3))
	steps(t, i, m)
	for _, n := range []int{5, 6} {
		l := i.Pages()
		l = l[:cap(l)]
		for k := range l {
			l[k] = n
		}
		succeeds(t, "changed results", i, ref(5, 1), 1, 2, 3)
	}
}

func TestACopyGoesOnByItself(t *testing.T) {
	for news := range 5 {
		for _, late := range []bool{false, true} {
			for ahead := range 5*news + 4 {
				m := memory(t, 9, 9)
				i := install.Begin(job(m, news))
				if late {
					write(t, m, 0)
				}
				for range ahead {
					i.Step(m)
				}
				c, mc := *i, m.Copy()
				n := steps(t, i, m)
				takes(t, "a copy", &c, mc, n)
				if !reflect.DeepEqual(m, mc) {
					t.Errorf("%d new pages, a copy after %d steps: %q, not %q", news, ahead, state(mc), state(m))
				}
				ok, err := i.Done()
				okc, errc := c.Done()
				if ok == late || okc != ok || err != nil || errc != nil || c.Head() != i.Head() || !slices.Equal(c.Pages(), i.Pages()) {
					t.Errorf("%d new pages, a copy after %d steps: %v and %v", news, ahead, ok, okc)
				}
			}
		}
	}
}

func TestACopyIsNotChangedByTheOther(t *testing.T) {
	m := memory(t, 20, 9)
	i := install.Begin(job(m, 2))
	i.Step(m)
	c := *i // both have page 1, and each takes one more
	i.Step(m)
	c.Step(m)
	for range 4 {
		i.Step(m)
		c.Step(m)
	}
	holds(t, "two copies", m, "0=1.1 1=2.1 2=4.1 3=- | 1.1 2.1 3.1 4.1") // page 1 was linked by i first, so that c has begun to undo its records
	works(t, "a copy", &c)
	works(t, "the other", i)
	steps(t, i, m)
	succeeds(t, "the other", i, ref(5, 2), 1, 2)
	steps(t, &c, m)
	fails(t, "a copy", &c, nil)
}
