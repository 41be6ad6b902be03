package tree_test

import (
	"reflect"
	"testing"

	"rowlock/api"
	"rowlock/mem"
	"rowlock/tree"
)

// P14.3.

// scans asks for the rows of a memory, without an access.
func scans(t *testing.T, name string, m *mem.Memory, want []api.Row) {
	t.Helper()
	was := m.Copy()
	l, err := tree.Scan(m)
	if err != nil || len(l) != len(want) || len(want) > 0 && !reflect.DeepEqual(l, want) {
		t.Errorf("%s: %v, %v, not %v", name, l, err, want)
	}
	if !reflect.DeepEqual(m, was) {
		t.Errorf("%s: Scan changes the memory", name)
	}
}

// scanFails asks that a memory has no rows, but an error.
func scanFails(t *testing.T, name string, m *mem.Memory, want error) {
	t.Helper()
	l, err := tree.Scan(m)
	if len(l) != 0 || !reflect.DeepEqual(err, want) {
		t.Errorf("%s: %v, %v, not %v", name, l, err, want)
	}
}

func TestScan(t *testing.T) {
	m := memory(t, limits())
	scans(t, "a new tree", m, nil)
	write(t, m, 0, api.Record{Kind: api.LeafPut, Key: "b", Value: "b"})
	write(t, m, 0, api.Record{Kind: api.LeafPut, Key: "a", Value: "a"})
	scans(t, "one leaf", m, list("ab"))

	m = laid(t)
	scans(t, "three leaves", m, list("abcdef"))
	write(t, m, 2, api.Record{Kind: api.LeafDel, Key: "c"})
	write(t, m, 3, api.Record{Kind: api.LeafDel, Key: "e"})
	scans(t, "two rows fewer", m, list("abdf"))

	n := add(t, m, upper(api.Entry{Page: 1}, api.Entry{Key: "c", Page: 2}, api.Entry{Key: "e", Page: 3}))
	replace(t, m, 0, upper(api.Entry{Page: n}))
	scans(t, "two inner pages", m, list("abdf"))
}

// What is underway does not matter: the leaves are those along Right.
func TestScanOfATreeThatIsBeingChanged(t *testing.T) {
	scans(t, "a split without an entry", behindSplit(t), list("abcdef"))
	scans(t, "a hold", heldLeaf(t), list("abcdef"))
	m := heldLeaf(t)
	write(t, m, 2, api.Record{Kind: api.LeafRemove})
	scans(t, "a page that is gone", m, list("abcdef"))
	write(t, m, 1, api.Record{Kind: api.LeafMerge, Key: "c", High: "e", Right: 3, Rows: list("cd")})
	scans(t, "a merge", m, list("abcdef"))
	write(t, m, 0, api.Record{Kind: api.InnerDrop})
	scans(t, "a drop", m, list("abcdef"))

	m = laid(t) // leaves to which no entry leads
	replace(t, m, 0, upper(api.Entry{Page: 1}))
	scans(t, "one entry", m, list("abcdef"))
	replace(t, m, 0, upper(api.Entry{Page: 2}))
	scans(t, "another entry", m, list("cdef"))
}

// As many leaves as pages are not too many.
func TestScanOfManyLeaves(t *testing.T) {
	m := memory(t, limits())
	const keys = "abcdefgh"
	for k := range keys {
		low, high := keys[k:k+1], ""
		if k+1 < len(keys) {
			high = keys[k+1 : k+2]
		}
		add(t, m, base(low, high, k+2, keys[k:k+1]))
	}
	replace(t, m, 0, base("", "a", 1, "X"))
	if len(m.Pages()) != m.Limits().Pages {
		t.Fatal(m.Pages())
	}
	scans(t, "nine leaves", m, list("X"+keys))
}

func TestScanThatFails(t *testing.T) {
	scanFails(t, "nil", nil, api.ErrArg)

	m := laid(t)
	m.Give(2)
	scanFails(t, "a page that is free", m, &api.Fault{Place: "table", Slot: 2, Err: api.ErrNone})

	m = laid(t)
	m.Give(0)
	scanFails(t, "no page 0", m, &api.Fault{Place: "table", Slot: 0, Err: api.ErrNone})

	m = laid(t)
	m.Free(head(m, 3))
	scanFails(t, "a record that is free", m, &api.Fault{Place: "arena", Slot: 4, Err: api.ErrStale})

	for _, n := range []int{0, 1, 3} {
		m = laid(t)
		write(t, m, n, api.Record{Kind: 99})
		scanFails(t, "no such kind", m, api.ErrKind)
		m = laid(t)
		write(t, m, n, map[bool]api.Record{true: {Kind: api.InnerPut, Key: "c"}, false: {Kind: api.LeafPut}}[n == 0])
		scanFails(t, "no valid chain", m, api.ErrChain)
	}

	m = laid(t)
	n, _ := m.Take()
	replace(t, m, 2, base("c", "e", n, ""))
	scanFails(t, "a page without records", m, api.ErrChain)

	for _, right := range []int{5, 9, -1, 1 << 40} { // where a leaf leads to no page
		m = laid(t)
		replace(t, m, 2, base("c", "e", right, "cd"))
		if l, err := tree.Scan(m); len(l) != 0 || err == nil || err == error(api.ErrChain) {
			t.Errorf("to the right %d: %v, %v", right, l, err)
		}
	}
}

func TestScanOfAnInnerPageAmongLeaves(t *testing.T) {
	m := laid(t)
	replace(t, m, 2, base("c", "e", 0, "cd"))
	scanFails(t, "an inner page", m, api.ErrKind)
}

func TestScanOfCircles(t *testing.T) {
	for _, right := range []int{1, 2} {
		m := laid(t)
		replace(t, m, 2, base("c", "e", right, "cd"))
		scanFails(t, "leaves", m, api.ErrChain)
	}
	m := memory(t, limits())
	replace(t, m, 0, base("", "c", 0, "ab"))
	scanFails(t, "one leaf", m, api.ErrChain)

	m = laid(t) // inner pages
	replace(t, m, 0, upper(api.Entry{Page: 0}))
	scanFails(t, "page 0", m, api.ErrChain)
	m = laid(t)
	n := add(t, m, upper(api.Entry{Page: 0}))
	replace(t, m, 0, upper(api.Entry{Page: n}, api.Entry{Key: "c", Page: 2}))
	scanFails(t, "two inner pages", m, api.ErrChain)
}

// As deep as there are pages is not too deep.
func TestScanOfADeepTree(t *testing.T) {
	m := memory(t, limits())
	n := add(t, m, base("", "", 0, "abc"))
	for len(m.Pages()) < m.Limits().Pages {
		n = add(t, m, upper(api.Entry{Page: n}))
	}
	replace(t, m, 0, upper(api.Entry{Page: n}))
	scans(t, "a deep tree", m, list("abc"))
}
