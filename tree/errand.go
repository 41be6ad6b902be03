package tree

import (
	"rowlock/api"
	"rowlock/bkey"
	"rowlock/leaf"
	"rowlock/page"
	"rowlock/plan"
	"rowlock/rows"
)

// calling is the errand of a call.
type calling api.Call

func (c calling) decide(p page.Page, above plan.Above, l api.Limits, writes bool) plan.Plan {
	return plan.Decide(p, above, c.Key, l, writes)
}

func (c calling) fail(t *Thread, err error) {
	t.reply = api.Reply{Err: err}
}

// act sets the reply ahead of the job that a writing call needs; if the job does not succeed, there is another one later.
func (c calling) act(t *Thread, w walk, p page.Page) step {
	was, there := value(p.Rows.Rows, c.Key)
	if err := c.refusal(there); err != nil {
		c.fail(t, err)
		return leave
	}
	t.reply = api.Reply{Value: was}
	r := api.Record{Kind: api.LeafPut, Key: c.Key, Value: c.Value}
	switch c.Kind {
	case api.Get:
		return leave
	case api.Delete:
		r = api.Record{Kind: api.LeafDel, Key: c.Key}
	}
	return w.begin(inFront(p.N, p.Head, r), leave)
}

// value is that of a key, and whether it has one.
func value(l []api.Row, key string) (string, bool) {
	i, there := rows.Find(l, key)
	if !there {
		return "", false
	}
	return l[i].Value, true
}

// refusal is why a call does nothing at its leaf, if it does not.
func (c calling) refusal(there bool) error {
	switch {
	case c.Kind == api.Insert && there:
		return api.ErrThere
	case c.Kind != api.Insert && c.Kind != api.Upsert && !there:
		return api.ErrNone
	}
	return nil
}

// batching is the errand of a batch.
type batching struct {
	span    bkey.Span
	reverse bool
}

func (b batching) decide(p page.Page, above plan.Above, l api.Limits, writes bool) plan.Plan {
	if b.reverse {
		return plan.Back(p, b.span.High, b.span.Unbounded, writes)
	}
	return plan.Decide(p, above, b.span.Low, l, writes)
}

func (b batching) fail(t *Thread, err error) {
	t.batch = Batch{Err: err}
}

func (b batching) act(t *Thread, _ walk, p page.Page) step {
	t.batch = Batch{Rows: rows.Take(p.Rows.Rows, b.span, 0, b.reverse)}
	t.batch.Rest, t.batch.Ended = b.rest(p.Rows)
	return leave
}

// rest is what a leaf leaves of the span, and whether that is nothing.
func (b batching) rest(v leaf.View) (bkey.Span, bool) {
	s := b.span
	switch {
	case b.reverse && v.Low > s.Low: // strings are compared bytewise, which is the order of keys
		return bkey.Span{Low: s.Low, High: v.Low}, false
	case !b.reverse && !v.Unbounded && (s.Unbounded || v.High < s.High):
		return bkey.Span{Low: v.High, High: s.High, Unbounded: s.Unbounded}, false
	}
	return bkey.Span{}, true
}
