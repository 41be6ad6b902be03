package txn

import (
	"slices"

	"rowlock/api"
	"rowlock/bkey"
	"rowlock/commits"
	"rowlock/cursor"
	"rowlock/fault"
	"rowlock/rows"
	"rowlock/tree"
)

// noted is what was read with one more, unless it is there already. It is of no use to a transaction that only reads: that is never held against what others wrote.
func noted[T comparable](t trip, l []T, x T) []T {
	if t.reads || slices.Contains(l, x) {
		return l
	}
	return append(slices.Clip(l), x)
}

// logging is the reading of a log.
type logging struct {
	n    int   // the commit that is read next
	last *part // that was read
	read int   // how many parts were read
	then func(c *Client, parts [][]commits.Write) step
}

// part is a part of a log, and the ones before it. It is never changed, so that a client which was copied as a value goes on by itself.
type part struct {
	writes []commits.Write
	before *part
}

// readLog is the first step of reading the log. What it returns goes on with the parts.
func readLog(then func(c *Client, parts [][]commits.Write) step) step {
	return func(c *Client, s Store) step {
		return logging{n: s.Table.Base() + 1, then: then}.goOn(c)
	}
}

// goOn is the step that reads the next part, or what comes after the last one.
func (l logging) goOn(c *Client) step {
	if l.n <= c.trip.snapshot {
		return l.at
	}
	return l.then(c, l.parts())
}

// at reads the next part. If that is dropped, the base has moved on: then the tree has what the log lost.
func (l logging) at(c *Client, s Store) step {
	w, err := s.Table.At(l.n)
	switch {
	case fault.Is(err, api.ErrNone):
		return readLog(l.then)
	case err != nil:
		return c.finish(Result{Err: err})
	}
	l.n, l.read, l.last = l.n+1, l.read+1, &part{writes: w, before: l.last}
	return l.goOn(c)
}

// parts is what was read, in order.
func (l logging) parts() [][]commits.Write {
	all := make([][]commits.Write, l.read)
	i := l.read
	for p := l.last; p != nil; p = p.before {
		i--
		all[i] = p.writes
	}
	return all
}

// Get reads a key.
func (c *Client) Get(key string) error {
	if err := c.ready(true); err != nil {
		return err
	}
	if !bkey.Right(key) {
		return api.ErrArg
	}
	if w, wrote := commits.Find(key, c.trip.writes); wrote {
		c.finish(written(w))
		return nil
	}
	c.trip.keys = noted(c.trip, c.trip.keys, key)
	c.start(readLog(func(c *Client, parts [][]commits.Write) step {
		if w, there := commits.Find(key, parts...); there {
			return c.finish(written(w))
		}
		return c.call(api.Call{Kind: api.Get, Key: key}, got)
	}))
	return nil
}

// written is the result of a key that has a write.
func written(w commits.Write) Result {
	if w.Gone {
		return Result{}
	}
	return Result{Value: w.Value, There: true}
}

// got goes on from the reply to a Get.
func got(c *Client, r api.Reply) step {
	switch {
	case fault.Is(r.Err, api.ErrNone):
		return c.finish(Result{})
	case r.Err != nil:
		return c.finish(Result{Err: r.Err})
	}
	return c.finish(Result{Value: r.Value, There: true})
}

// call starts a call of the thread, and is the step that makes its first access. What comes after the last one goes on with the reply. There are no other errors than that of the reply, as the thread has nothing else to do, and the call is valid.
func (c *Client) call(x api.Call, then func(c *Client, r api.Reply) step) step {
	c.thread.Start(x)
	return calling{then}.wait
}

// calling is what waits for a call of the thread.
type calling struct {
	then func(c *Client, r api.Reply) step
}

// wait makes an access of the call.
func (x calling) wait(c *Client, s Store) step {
	if !c.thread.Step(s.Mem) {
		return x.wait
	}
	r, _ := c.thread.Reply()
	return x.then(c, r)
}

// Range reads a span.
func (c *Client) Range(span bkey.Span, limit int, reverse bool) error {
	if err := c.ready(true); err != nil {
		return err
	}
	t := new(tree.Thread)
	x, err := cursor.New(t, span, 0, reverse)
	if err != nil {
		return err
	}
	c.trip.spans = noted(c.trip, c.trip.spans, span)
	c.start(readLog(func(_ *Client, parts [][]commits.Write) step {
		return scanning{cursor: *x, thread: t, span: span, limit: limit, reverse: reverse, parts: parts}.scan
	}))
	return nil
}

// scanning is a Range that waits for its cursor.
type scanning struct {
	cursor  cursor.Cursor
	thread  *tree.Thread // the cursor's: it is the client's while a step is made
	span    bkey.Span
	limit   int
	reverse bool
	parts   [][]commits.Write
}

// scan makes an access of the cursor. The client's thread is moved there and back, as the cursor knows but one thread, whereas each copy of a client has its own.
func (x scanning) scan(c *Client, s Store) step {
	*x.thread = c.thread
	finished := x.cursor.Step(s.Mem)
	c.thread = *x.thread
	if !finished {
		return x.scan
	}
	l, err := x.cursor.Rows()
	if err != nil {
		return c.finish(Result{Err: err})
	}
	return c.finish(Result{Rows: x.over(l, c.trip.writes)})
}

// over is the rows of the span, as the cursor found them, after applying the log and the transaction's own writes.
func (x scanning) over(found []api.Row, own []commits.Write) []api.Row {
	if x.reverse {
		slices.Reverse(found)
	}
	l := commits.Over(commits.Over(found, x.parts...), own)
	return rows.Take(l, x.span, x.limit, x.reverse)
}
