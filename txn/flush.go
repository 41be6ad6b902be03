package txn

import (
	"rowlock/api"
	"rowlock/commits"
	"rowlock/fault"
)

// Flush puts the next commit into the tree.
func (c *Client) Flush() error {
	if err := c.ready(false); err != nil {
		return err
	}
	c.start(grab)
	return nil
}

// grab takes the token, without which nothing is put into the tree.
func grab(c *Client, s Store) step {
	if ok, err := s.Table.Grab(c.n); !ok {
		return c.finish(Result{Err: err})
	}
	return flush{}.lookBase
}

// yielding is the last step of whoever took the token, whatever came of it.
func yielding(r Result) step {
	return func(c *Client, s Store) step {
		s.Table.Yield(c.n)
		return c.finish(r)
	}
}

// flush is the putting of the commit after the base into the tree.
type flush struct {
	base   int
	thread int             // whose mark is looked up next
	writes []commits.Write // of the commit, that are not in the tree yet
}

// lookBase looks up how far the tree is.
func (f flush) lookBase(_ *Client, s Store) step {
	f.base = s.Table.Base()
	return f.lookLast
}

// lookLast looks up whether there is a commit after the base.
func (f flush) lookLast(_ *Client, s Store) step {
	if s.Table.Last() == f.base {
		return yielding(Result{})
	}
	return f.survey(s)
}

// survey is the step that asks the next thread, or the one after the last of them.
func (f flush) survey(s Store) step {
	if f.thread < s.Mem.Limits().Threads {
		return f.ask
	}
	return f.read
}

// ask looks up whether the next thread reads at a snapshot that must not have the commit.
func (f flush) ask(_ *Client, s Store) step {
	if n, _ := s.Table.Marked(f.thread); n >= 0 && n <= f.base {
		return yielding(Result{})
	}
	f.thread++
	return f.survey(s)
}

// read reads the commit.
func (f flush) read(c *Client, s Store) step {
	l, err := s.Table.At(f.base + 1)
	if err != nil {
		return yielding(Result{Err: err})
	}
	f.writes = l
	return f.goOn(c)
}

// goOn is the step that begins to put the next write, or the one after the last of them.
func (f flush) goOn(c *Client) step {
	if len(f.writes) == 0 {
		return f.advance
	}
	return c.call(change(f.writes[0]), f.put)
}

// change is the call that makes the tree have a write.
func change(w commits.Write) api.Call {
	if w.Gone {
		return api.Call{Kind: api.Delete, Key: w.Key}
	}
	return api.Call{Kind: api.Upsert, Key: w.Key, Value: w.Value}
}

// put goes on from the reply to a write. A key that is to be gone need not have been there.
func (f flush) put(c *Client, r api.Reply) step {
	if r.Err != nil && !fault.Is(r.Err, api.ErrNone) {
		return yielding(Result{Err: r.Err})
	}
	f.writes = f.writes[1:]
	return f.goOn(c)
}

// advance makes the commit one that is in the tree.
func (f flush) advance(_ *Client, s Store) step {
	if ok, err := s.Table.Advance(f.base); !ok {
		return yielding(Result{Err: err})
	}
	return f.trim
}

// trim drops the commit, which nobody needs any more.
func (f flush) trim(_ *Client, s Store) step {
	s.Table.Trim(f.base + 1)
	return yielding(Result{Number: f.base + 1})
}
