package tree

import (
	"rowlock/api"
	"rowlock/epoch"
	"rowlock/fault"
	"rowlock/inner"
	"rowlock/install"
	"rowlock/leaf"
	"rowlock/mem"
	"rowlock/merge"
	"rowlock/page"
	"rowlock/plan"
)

// place is where an error passed that came from a layer below.
const place = "tree"

// root is the page where every walk begins.
const root = 0

// errand is what a thread wants at a leaf: a call, or a batch.
type errand interface {
	// decide is what is to be done at a page on the way.
	decide(p page.Page, above plan.Above, l api.Limits, writes bool) plan.Plan
	// act does it at the leaf, or begins to.
	act(t *Thread, w walk, p page.Page) step
	// fail makes an error its result.
	fail(t *Thread, err error)
}

// walk is an errand on its way to a leaf.
type walk struct {
	errand errand
	above  plan.Above
	writes bool // whether it changes on its way what is to be changed
}

// bump makes the first access: when the thread enters.
func (w walk) bump(t *Thread, m *mem.Memory) step {
	at, err := m.Bump()
	if err != nil {
		return w.refuse(t, err)
	}
	return entry{walk: w, at: at}.enter
}

// entry is a walk ahead of its first page.
type entry struct {
	walk
	at int
}

// enter makes the thread inside.
func (e entry) enter(t *Thread, m *mem.Memory) step {
	if err := m.Enter(t.n, e.at); err != nil {
		return e.refuse(t, err)
	}
	return e.again()
}

// refuse ends an errand whose thread did not come inside.
func (w walk) refuse(t *Thread, err error) step {
	w.errand.fail(t, fault.At(place, t.n, err))
	return nil
}

// fail ends an errand whose thread is inside.
func (w walk) fail(t *Thread, err error) step {
	w.refuse(t, err)
	return leave
}

// again begins a walk at the root, with nothing above.
func (w walk) again() step {
	w.above = plan.Above{}
	return w.to(root)
}

// to goes to a page.
func (w walk) to(n int) step {
	return loading{walk: w, loader: *page.Begin(n)}.load
}

// loading is a walk whose next page is being loaded.
type loading struct {
	walk
	loader page.Loader
}

// load makes an access of loading.
func (l loading) load(t *Thread, m *mem.Memory) step {
	if !l.loader.Step(m) {
		return l.load
	}
	p, err := l.loader.Page()
	if err != nil {
		return l.fail(t, err)
	}
	return l.arrive(t, p, m.Limits())
}

// arrive goes on from a page that was loaded.
func (w walk) arrive(t *Thread, p page.Page, l api.Limits) step {
	x := w.errand.decide(p, w.above, l, w.writes)
	switch x.Kind {
	case plan.Down:
		w.above = plan.Above{Some: true, N: p.N, Head: p.Head, View: p.Inner}
		fallthrough
	case plan.Across:
		return w.to(x.To)
	case plan.Again:
		w.writes = w.writes || p.Leaf // what is in the way there may stay for ever, unless somebody changes it
		return w.again()
	case plan.Act:
		return w.errand.act(t, w, p)
	}
	return w.change(p, x)
}

// change changes what is in the way at a page.
func (w walk) change(p page.Page, x plan.Plan) step {
	switch x.Kind {
	case plan.Post:
		return w.putAbove(api.Record{Kind: api.InnerPut, Key: x.Entry.Key, Page: x.Entry.Page})
	case plan.Hold:
		return w.putAbove(api.Record{Kind: api.InnerHold, Hold: x.Hold})
	case plan.Help:
		return helping{walk: w, helper: *merge.Begin(p.N, p.Head, x.Hold)}.help
	case plan.Tidy:
		return w.begin(single(p.N, p.Head, base(p)), w.discard(p))
	case plan.Split:
		return w.begin(splitting(p), w.again())
	}
	return w.begin(growing(p), w.discard(p)) // no other kind is left
}

// single is a job that changes a page by one record.
func single(n int, old api.Ref, r api.Record) install.Job {
	return install.Job{Page: n, Old: old, Make: func([]int) ([]api.Record, api.Record) { return nil, r }}
}

// inFront is a job that puts a record on a page.
func inFront(n int, old api.Ref, r api.Record) install.Job {
	r.Next = old
	return single(n, old, r)
}

// putAbove puts a record on the page above.
func (w walk) putAbove(r api.Record) step {
	return w.begin(inFront(w.above.N, w.above.Head, r), w.again())
}

// base is a page's base.
func base(p page.Page) api.Record {
	if p.Leaf {
		return leaf.Base(p.Rows)
	}
	return inner.Base(p.Inner)
}

// splitting is a job that splits a page. There is no error, as a page is only split if it has more than two rows or entries.
func splitting(p page.Page) install.Job {
	return install.Job{Page: p.N, Old: p.Head, News: 1, Make: func(pages []int) ([]api.Record, api.Record) {
		var split, right api.Record
		if p.Leaf {
			split, right, _ = leaf.Split(p.Rows, pages[0])
		} else {
			split, right, _ = inner.Split(p.Inner, pages[0])
		}
		split.Next = p.Head
		return []api.Record{right}, split
	}}
}

// growing is a job that puts a page's halves below it. There is no error, as when it is split.
func growing(p page.Page) install.Job {
	return install.Job{Page: p.N, Old: p.Head, News: 2, Make: func(pages []int) ([]api.Record, api.Record) {
		var left, right, top api.Record
		if p.Leaf {
			left, right, top, _ = leaf.Grow(p.Rows, pages[0], pages[1])
		} else {
			left, right, top, _ = inner.Grow(p.Inner, pages[0], pages[1])
		}
		return []api.Record{left, right}, top
	}}
}

// putting is a walk that waits for a job.
type putting struct {
	walk
	installer install.Installer
	then      step // if the job succeeds; otherwise the walk begins again
}

// begin begins a job.
func (w walk) begin(j install.Job, then step) step {
	return putting{walk: w, installer: *install.Begin(j), then: then}.put
}

// put makes an access of a job.
func (p putting) put(t *Thread, m *mem.Memory) step {
	if !p.installer.Step(m) {
		return p.put
	}
	done, err := p.installer.Done()
	switch {
	case err != nil:
		return p.fail(t, err)
	case done:
		return p.then
	}
	return p.again()
}

// helping is a walk that waits for a hold to be done.
type helping struct {
	walk
	helper merge.Helper
}

// help makes an access of a hold.
func (h helping) help(t *Thread, m *mem.Memory) step {
	if !h.helper.Step(m) {
		return h.help
	}
	done, err := h.helper.Done()
	switch {
	case err != nil:
		return h.fail(t, err)
	case !done:
		return h.again()
	}
	head, n := h.helper.Gone()
	return unlinked{walk: h.walk, item: epoch.Item{Chain: head, Page: n}}.stamp
}

// unlinked is a walk after something was unlinked.
type unlinked struct {
	walk
	item epoch.Item
}

// discard is the step after the chain of a page was unlinked, while the page stays.
func (w walk) discard(p page.Page) step {
	return unlinked{walk: w, item: epoch.Item{Chain: p.Head, Page: noPage}}.stamp
}

// stamp puts what was unlinked into the bin.
func (u unlinked) stamp(t *Thread, m *mem.Memory) step {
	u.item.Stamp = m.Now()
	t.bin.Add(u.item)
	return u.again()
}
