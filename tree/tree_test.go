package tree_test

import (
	"math"
	"slices"
	"testing"

	"seisin/api"
	"seisin/tree"
)

// model is the list itself.
type model struct{ list []api.Node }

func (m *model) find(s api.Slot) int {
	return slices.IndexFunc(m.list, func(n api.Node) bool { return n.Slot == s })
}

func (m *model) end(at int) int {
	end := at + 1
	for end < len(m.list) && m.list[end].Depth > m.list[at].Depth {
		end++
	}
	return end
}

func (m *model) root(s api.Slot) api.Errno {
	if m.find(s) >= 0 {
		return api.ErrFull
	}
	m.list = append(m.list, api.Node{Slot: s})
	return api.OK
}

func (m *model) child(parent, s api.Slot) api.Errno {
	p := m.find(parent)
	if p < 0 {
		return api.ErrEmpty
	}
	if m.find(s) >= 0 {
		return api.ErrFull
	}
	m.list = slices.Insert(m.list, p+1, api.Node{Slot: s, Depth: m.list[p].Depth + 1})
	return api.OK
}

func (m *model) remove(s api.Slot) api.Errno {
	at := m.find(s)
	if at < 0 {
		return api.ErrEmpty
	}
	end := m.end(at)
	for i := at + 1; i < end; i++ {
		m.list[i].Depth--
	}
	m.list = slices.Delete(m.list, at, at+1)
	return api.OK
}

func (m *model) move(from, to api.Slot) api.Errno {
	at := m.find(from)
	if at < 0 {
		return api.ErrEmpty
	}
	if m.find(to) >= 0 {
		return api.ErrFull
	}
	m.list[at].Slot = to
	return api.OK
}

func (m *model) swap(a, b api.Slot) api.Errno {
	i, j := m.find(a), m.find(b)
	if i >= 0 {
		m.list[i].Slot = b
	}
	if j >= 0 {
		m.list[j].Slot = a
	}
	return api.OK
}

func (m *model) below(s api.Slot) []api.Slot {
	at := m.find(s)
	if at < 0 {
		return nil
	}
	var list []api.Slot
	for _, n := range m.list[at+1 : m.end(at)] {
		list = append(list, n.Slot)
	}
	return list
}

func (m *model) parent(s api.Slot) (api.Slot, bool) {
	for i := m.find(s) - 1; i >= 0; i-- {
		if m.list[i].Depth < m.list[m.find(s)].Depth {
			return m.list[i].Slot, true
		}
	}
	return api.Slot{}, false
}

func compare(t *testing.T, x *tree.Tree, m *model, slots []api.Slot) {
	t.Helper()
	if got := x.All(); !slices.Equal(got, m.list) {
		t.Fatalf("All = %v; want %v", got, m.list)
	}
	for _, s := range slots {
		if x.Has(s) != (m.find(s) >= 0) {
			t.Fatalf("Has(%v) in %v", s, m.list)
		}
		if got := x.Below(s); !slices.Equal(got, m.below(s)) {
			t.Fatalf("Below(%v) = %v in %v", s, got, m.list)
		}
		p, ok := x.Parent(s)
		if q, has := m.parent(s); p != q || ok != has {
			t.Fatalf("Parent(%v) = %v, %v in %v", s, p, ok, m.list)
		}
	}
}

func at(i int) api.Slot { return api.Slot{Node: i, Index: i % 3} }

func TestP17_1Example(t *testing.T) {
	a, b, c, d := at(1), at(2), at(3), at(4)
	x := tree.New()
	if len(x.All()) != 0 {
		t.Error("a new tree is not empty")
	}
	if x.Root(a) != api.OK || x.Child(a, b) != api.OK || x.Child(b, c) != api.OK || x.Child(a, d) != api.OK {
		t.Fatal("Root, Child")
	}
	if got := x.All(); !slices.Equal(got, []api.Node{{Slot: a}, {Slot: d, Depth: 1}, {Slot: b, Depth: 1}, {Slot: c, Depth: 2}}) {
		t.Errorf("All = %v", got)
	}
	if !slices.Equal(x.Below(b), []api.Slot{c}) || !slices.Equal(x.Below(a), []api.Slot{d, b, c}) {
		t.Errorf("Below: %v, %v", x.Below(b), x.Below(a))
	}
	if p, ok := x.Parent(c); p != b || !ok {
		t.Errorf("Parent(c) = %v, %v", p, ok)
	}
	if code := x.Remove(b); code != api.OK {
		t.Errorf("Remove(b): %d", code)
	}
	if got := x.All(); !slices.Equal(got, []api.Node{{Slot: a}, {Slot: d, Depth: 1}, {Slot: c, Depth: 1}}) {
		t.Errorf("All after Remove = %v", got)
	}
}

func TestP17_1RandomCalls(t *testing.T) {
	for _, size := range []int{3, 6, 14, 40} {
		seed := uint32(size)
		next := func(n int) int {
			seed = seed*1664525 + 1013904223
			return int(seed>>8) % n
		}
		x, m := tree.New(), &model{}
		var slots []api.Slot
		for i := range size {
			slots = append(slots, at(i))
		}
		for range 4000 {
			a, b := slots[next(size)], slots[next(size)]
			var got, want api.Errno
			switch op := next(12); {
			case op < 2:
				got, want = x.Root(a), m.root(a)
			case op < 6:
				got, want = x.Child(a, b), m.child(a, b)
			case op < 8:
				got, want = x.Remove(a), m.remove(a)
			case op < 10:
				got, want = x.Move(a, b), m.move(a, b)
			default:
				got, want = x.Swap(a, b), m.swap(a, b)
			}
			if got != want {
				t.Fatalf("a call returned %d; want %d", got, want)
			}
			compare(t, x, m, slots)
			for i, n := range m.list {
				// P17.3
				if i == 0 && n.Depth != 0 || i > 0 && n.Depth > m.list[i-1].Depth+1 || n.Depth < 0 {
					t.Fatalf("depths: %v", m.list)
				}
			}
		}
	}
}

func TestP17_1Errors(t *testing.T) {
	x, m := tree.New(), &model{}
	a, b, c := at(1), at(2), at(3)
	slots := []api.Slot{a, b, c, {Node: math.MinInt, Index: -1}}
	for _, code := range []api.Errno{x.Child(a, b), x.Child(a, a), x.Remove(a), x.Move(a, b), x.Move(a, a)} {
		if code != api.ErrEmpty {
			t.Errorf("a call on an empty tree: %d", code)
		}
	}
	if x.Swap(a, b) != api.OK || x.Swap(a, a) != api.OK {
		t.Error("Swap of slots that are not there")
	}
	compare(t, x, m, slots)
	x.Root(a)
	m.root(a)
	if x.Root(a) != api.ErrFull || x.Child(a, a) != api.ErrFull || x.Move(a, a) != api.ErrFull || x.Child(b, a) != api.ErrEmpty || x.Move(b, a) != api.ErrEmpty {
		t.Error("a slot that is there already")
	}
	x.Child(a, b)
	m.child(a, b)
	if x.Move(a, b) != api.ErrFull || x.Child(a, b) != api.ErrFull {
		t.Error("Move or Child to a slot that is there")
	}
	if x.Swap(a, a) != api.OK || x.Swap(a, c) != api.OK {
		t.Error("Swap")
	}
	m.swap(a, c)
	compare(t, x, m, slots)
	if x.Swap(a, c) != api.OK || x.Swap(c, b) != api.OK {
		t.Error("Swap")
	}
	m.swap(a, c)
	m.swap(c, b)
	compare(t, x, m, slots)
	odd := slots[3]
	if x.Root(odd) != api.OK || x.Remove(odd) != api.OK {
		t.Error("any slot may be in the tree")
	}
	compare(t, x, m, slots)
}

func TestP17_3StaysBelow(t *testing.T) {
	x := tree.New()
	x.Root(at(0))
	for i := 1; i < 30; i++ {
		x.Child(at(i-1), at(i))
	}
	for i := 1; i < 29; i += 2 {
		x.Remove(at(i))
		if got := x.Below(at(0)); len(got) != 29-(i+1)/2 || got[len(got)-1] != at(29) {
			t.Fatalf("after Remove(%d), below the root: %v", i, got)
		}
	}
}

func TestManySlots(t *testing.T) {
	x := tree.New()
	x.Root(at(0))
	const n = 200000
	for i := 1; i < n; i++ {
		x.Child(at(0), at(i))
	}
	for i := 1; i < n; i++ {
		if x.Remove(at(i)) != api.OK {
			t.Fatal(i)
		}
	}
	if len(x.All()) != 1 {
		t.Error("something is left")
	}
}

func TestResultsAreCopies(t *testing.T) {
	x := tree.New()
	x.Root(at(0))
	x.Child(at(0), at(1))
	x.All()[0].Slot = at(9)
	x.Below(at(0))[0] = at(9)
	if x.Has(at(9)) || !slices.Equal(x.Below(at(0)), []api.Slot{at(1)}) || x.All()[0].Slot != at(0) {
		t.Error("a result shares memory with the tree")
	}
}

func TestNilTree(t *testing.T) {
	var x *tree.Tree
	for _, code := range []api.Errno{x.Root(at(0)), x.Child(at(0), at(1)), x.Remove(at(0)), x.Move(at(0), at(1)), x.Swap(at(0), at(1))} {
		if code != api.ErrNil {
			t.Errorf("a call of a nil tree: %d", code)
		}
	}
	if p, ok := x.Parent(at(0)); ok || p != (api.Slot{}) || x.Has(at(0)) || len(x.Below(at(0))) != 0 || len(x.All()) != 0 {
		t.Error("a nil tree has something")
	}
}
