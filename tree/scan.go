package tree

import (
	"rowlock/api"
	"rowlock/mem"
	"rowlock/page"
)

// Scan is the rows of all leaves.
func Scan(m *mem.Memory) ([]api.Row, error) {
	var all []api.Row
	p, err := leftmost(m)
	for leaves := 1; ; leaves++ {
		switch {
		case err != nil:
			return nil, err
		case !p.Leaf:
			return nil, api.ErrKind
		case leaves > m.Limits().Pages: // they are a circle
			return nil, api.ErrChain
		}
		all = append(all, p.Rows.Rows...)
		if p.Rows.Unbounded {
			return all, nil
		}
		p, err = look(m, p.Rows.Right)
	}
}

// leftmost is the leaf to which the first entries lead.
func leftmost(m *mem.Memory) (page.Page, error) {
	n, depth := root, 0
down:
	p, err := look(m, n)
	if err != nil || p.Leaf {
		return p, err
	}
	if depth == m.Limits().Pages { // they are a circle
		return page.Page{}, api.ErrChain
	}
	depth++
	n = p.Inner.Entries[0].Page // there is one in each valid chain
	goto down
}

// look is a page, without an access. Nobody asks for its head, so it has none.
func look(m *mem.Memory, n int) (page.Page, error) {
	chain, refs, err := m.Chain(n)
	if err != nil {
		return page.Page{}, err
	}
	return page.Of(n, api.Ref{}, chain, refs)
}
