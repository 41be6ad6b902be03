package txn

import (
	"rowlock/api"
	"rowlock/commits"
)

// noMark is the mark of a thread that has none.
const noMark = -1

// Commit commits the transaction.
func (c *Client) Commit() error {
	if err := c.ready(true); err != nil {
		return err
	}
	if len(c.trip.writes) == 0 {
		c.start(leaving(Result{Number: c.trip.snapshot}))
		return nil
	}
	c.start(commit{n: c.trip.snapshot + 1}.lookLast)
	return nil
}

// Abort ends the transaction.
func (c *Client) Abort() error {
	if err := c.ready(true); err != nil {
		return err
	}
	c.start(leaving(Result{}))
	return nil
}

// leaving is the last step of a transaction, whatever came of it.
func leaving(r Result) step {
	return func(c *Client, s Store) step {
		s.Table.Mark(c.n, noMark)
		c.inside, c.trip = false, trip{}
		return c.finish(r)
	}
}

// commit is a transaction that is about to be committed.
type commit struct {
	n    int // the commit of others that is held against what was read next
	last int // the last commit, when that was looked up
}

// lookLast looks up what others committed since.
func (x commit) lookLast(_ *Client, s Store) step {
	x.last = s.Table.Last()
	return x.goOn()
}

// goOn is the step that compares the next commit, or the one after the last of them.
func (x commit) goOn() step {
	if x.n <= x.last {
		return x.compare
	}
	return x.append
}

// compare holds the next commit against what was read. What cannot be compared might clash.
func (x commit) compare(c *Client, s Store) step {
	l, err := s.Table.At(x.n)
	switch {
	case err != nil:
		return leaving(Result{Err: err})
	case commits.Clash(c.trip.keys, c.trip.spans, l):
		return leaving(Result{Err: api.ErrConflict})
	}
	x.n++
	return x.goOn()
}

// append appends what was written. If somebody else was faster, there is more to compare.
func (x commit) append(c *Client, s Store) step {
	ok, err := s.Table.Append(x.last, c.trip.writes)
	switch {
	case err != nil:
		return leaving(Result{Err: err})
	case ok:
		return leaving(Result{Number: x.last + 1})
	}
	return x.lookLast
}
