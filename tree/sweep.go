package tree

import (
	"rowlock/api"
	"rowlock/epoch"
	"rowlock/mem"
)

// noPage is the page of an item of which only the chain is freed.
const noPage = -1

// leave makes a thread outside. There may be something in its bin then.
func leave(t *Thread, m *mem.Memory) step {
	m.Leave(t.n)
	if t.bin.Len() == 0 {
		return nil
	}
	return sweep
}

// sweep makes the first access of a sweep. At the end of the clock its number is still the one that counts.
func sweep(t *Thread, m *mem.Memory) step {
	now, _ := m.Bump()
	return survey{oldest: now}.goOn(t, m)
}

// survey asks the threads, one after the other, since when they are inside.
type survey struct {
	thread int // that is asked next
	oldest int // as far as they were asked
}

// goOn is the next step of a survey, or the first one after it.
func (s survey) goOn(t *Thread, m *mem.Memory) step {
	if s.thread < m.Limits().Threads {
		return s.ask
	}
	return reclaim{items: t.bin.Ripe(s.oldest)}.begin()
}

// ask asks the next thread.
func (s survey) ask(t *Thread, m *mem.Memory) step {
	if at, inside, _ := m.At(s.thread); inside {
		s.oldest = min(s.oldest, at)
	}
	s.thread++
	return s.goOn(t, m)
}

// reclaim frees the records of items, and gives their pages back.
type reclaim struct {
	items []epoch.Item // the first one is being reclaimed
	at    api.Ref      // its record that is loaded or freed next; the zero ref if there is none left
	next  api.Ref      // the record after one that was loaded
}

// begin begins with the first item, if there is one.
func (r reclaim) begin() step {
	if len(r.items) == 0 {
		return nil
	}
	r.at = r.items[0].Chain
	return r.goOn()
}

// goOn is the next step of the first item, or that of the one after it.
func (r reclaim) goOn() step {
	switch {
	case r.at != (api.Ref{}):
		return r.load
	case r.items[0].Page != noPage:
		return r.give
	}
	r.items = r.items[1:]
	return r.begin()
}

// load looks up what comes after a record. A record that cannot be loaded ends its chain.
func (r reclaim) load(_ *Thread, m *mem.Memory) step {
	x, err := m.Load(r.at)
	if err != nil {
		r.at = api.Ref{}
		return r.goOn()
	}
	r.next = x.Next
	return r.free
}

// free frees a record.
func (r reclaim) free(_ *Thread, m *mem.Memory) step {
	m.Free(r.at)
	r.at = r.next
	return r.goOn()
}

// give gives a page back.
func (r reclaim) give(_ *Thread, m *mem.Memory) step {
	m.Give(r.items[0].Page)
	r.items = r.items[1:]
	return r.begin()
}
