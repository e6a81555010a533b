package hold_test

import (
	"math"
	"slices"
	"testing"

	"seisin/api"
	"seisin/derive"
	"seisin/hold"
)

func at(node, index int) api.Slot { return api.Slot{Node: node, Index: index} }

func end(obj int) api.Cap { return api.Cap{Kind: api.KindEndpoint, Obj: obj, Rights: 7} }

func frame(obj, r int) api.Cap { return api.Cap{Kind: api.KindFrame, Obj: obj, Rights: r} }

// two has nodes 7 and 8 of four slots each; an endpoint's capability is in {7, 0}.
func two(t *testing.T) *hold.Hold {
	t.Helper()
	h := hold.New()
	is(t, "AddNode", h.AddNode(7, 4), api.OK)
	is(t, "AddNode", h.AddNode(8, 4), api.OK)
	is(t, "Root", h.Root(at(7, 0), end(5)), api.OK)
	return h
}

func is(t *testing.T, call string, code, want api.Errno) {
	t.Helper()
	if code != want {
		t.Errorf("%s: %d; want %d", call, code, want)
	}
}

func has(t *testing.T, h *hold.Hold, s api.Slot, want api.Cap) {
	t.Helper()
	if c, code := h.Get(s); c != want || code != api.OK {
		t.Errorf("Get(%v) = %+v, %d; want %+v", s, c, code, want)
	}
}

func list(t *testing.T, h *hold.Hold, want ...api.Node) {
	t.Helper()
	if got := h.Tree(); !slices.Equal(got, want) {
		t.Errorf("Tree = %v; want %v", got, want)
	}
	together(t, h)
}

func node(s api.Slot, depth int) api.Node { return api.Node{Slot: s, Depth: depth} }

// together checks that a slot is in the tree exactly if it contains a capability.
func together(t *testing.T, h *hold.Hold) {
	t.Helper()
	inTree := map[api.Slot]int{}
	for _, n := range h.Tree() {
		inTree[n.Slot]++
	}
	used := h.Used()
	if len(used) != len(h.Tree()) {
		t.Fatalf("%d slots are used, %d in the tree", len(used), len(h.Tree()))
	}
	for _, x := range used {
		if inTree[x.Slot] != 1 {
			t.Fatalf("%v is used, and %d times in the tree", x.Slot, inTree[x.Slot])
		}
	}
}

// nowhere are slots that do not exist.
var nowhere = []api.Slot{at(7, 4), at(7, -1), at(6, 0), at(0, 0), at(math.MinInt, math.MaxInt)}

func TestP18_1Nodes(t *testing.T) {
	h := hold.New()
	list(t, h)
	is(t, "AddNode(0)", h.AddNode(0, 4), api.ErrArg)
	is(t, "AddNode of 17", h.AddNode(7, 17), api.ErrArg)
	is(t, "AddNode", h.AddNode(7, 4), api.OK)
	is(t, "AddNode again", h.AddNode(7, 4), api.ErrFull)
	is(t, "DropNode(8)", h.DropNode(8), api.ErrArg)
	is(t, "Root", h.Root(at(7, 0), end(5)), api.OK)
	is(t, "DropNode, used", h.DropNode(7), api.ErrBusy)
	has(t, h, at(7, 0), end(5))
	has(t, h, at(7, 1), api.Cap{})
	for _, s := range nowhere {
		if c, code := h.Get(s); c != (api.Cap{}) || code != api.ErrRange {
			t.Errorf("Get(%v) = %+v, %d", s, c, code)
		}
	}
	if h.Slots().Size(7) != 4 {
		t.Errorf("Slots().Size = %d", h.Slots().Size(7))
	}
	if c, code := h.Slots().Get(at(7, 0)); c != end(5) || code != api.OK {
		t.Error("Slots are not those of the hold")
	}
	if _, code := h.Clear(at(7, 0)); code != api.OK {
		t.Error("Clear")
	}
	if c, _ := h.Slots().Get(at(7, 0)); c != (api.Cap{}) {
		t.Error("Slots do not show what changed")
	}
	is(t, "DropNode", h.DropNode(7), api.OK)
	if h.Slots().Size(7) != 0 {
		t.Error("DropNode left the node")
	}
}

// misfits are capabilities that may not be stored.
var misfits = []api.Cap{{}, {Kind: api.KindEndpoint}, {Kind: 99}, {Obj: 5}, {Kind: api.KindFrame, Obj: 3}}

func TestP18_1Root(t *testing.T) {
	h := two(t)
	for _, s := range nowhere {
		is(t, "Root nowhere", h.Root(s, end(6)), api.ErrRange)
		is(t, "Root nowhere", h.Root(s, api.Cap{}), api.ErrRange)
	}
	for _, c := range misfits {
		is(t, "Root of a misfit", h.Root(at(7, 1), c), api.ErrForm)
		is(t, "Root of a misfit", h.Root(at(7, 0), c), api.ErrForm)
	}
	is(t, "Root, full", h.Root(at(7, 0), end(6)), api.ErrFull)
	list(t, h, node(at(7, 0), 0))
	is(t, "Root", h.Root(at(8, 3), api.Cap{Kind: api.KindControl}), api.OK)
	is(t, "Root", h.Root(at(7, 3), end(5)), api.OK)
	list(t, h, node(at(7, 0), 0), node(at(8, 3), 0), node(at(7, 3), 0))
	has(t, h, at(7, 0), end(5))
	has(t, h, at(8, 3), api.Cap{Kind: api.KindControl})
}

func TestP18_1Child(t *testing.T) {
	h := two(t)
	for _, s := range nowhere {
		is(t, "Child nowhere", h.Child(at(7, 0), s, api.Cap{}), api.ErrRange)
		is(t, "Child of nothing", h.Child(s, at(7, 1), api.Cap{}), api.ErrRange)
		is(t, "Child of nothing nowhere", h.Child(s, s, end(1)), api.ErrRange)
		is(t, "Child of an empty slot nowhere", h.Child(at(7, 1), s, end(1)), api.ErrRange)
		is(t, "Child of nothing, full", h.Child(s, at(7, 0), end(1)), api.ErrRange)
	}
	for _, c := range misfits {
		is(t, "Child, a misfit", h.Child(at(7, 0), at(7, 1), c), api.ErrForm)
		is(t, "Child of an empty slot, a misfit", h.Child(at(7, 2), at(7, 1), c), api.ErrForm)
		is(t, "Child, full, a misfit", h.Child(at(7, 0), at(7, 0), c), api.ErrForm)
	}
	is(t, "Child of an empty slot", h.Child(at(7, 1), at(7, 2), end(6)), api.ErrEmpty)
	is(t, "Child of an empty slot, full", h.Child(at(7, 1), at(7, 0), end(6)), api.ErrEmpty)
	is(t, "Child of an empty slot, itself", h.Child(at(7, 1), at(7, 1), end(6)), api.ErrEmpty)
	is(t, "Child, full", h.Child(at(7, 0), at(7, 0), end(6)), api.ErrFull)
	list(t, h, node(at(7, 0), 0))
	is(t, "Child", h.Child(at(7, 0), at(8, 0), frame(9, 3)), api.OK)
	is(t, "Child", h.Child(at(8, 0), at(7, 1), end(3)), api.OK)
	is(t, "Child", h.Child(at(7, 0), at(8, 1), end(4)), api.OK)
	list(t, h, node(at(7, 0), 0), node(at(8, 1), 1), node(at(8, 0), 1), node(at(7, 1), 2))
	has(t, h, at(8, 0), frame(9, 3))
}

func TestP18_1Set(t *testing.T) {
	h := two(t)
	h.Child(at(7, 0), at(7, 1), frame(9, 3))
	for _, s := range nowhere {
		is(t, "Set nowhere", h.Set(s, end(5)), api.ErrRange)
	}
	is(t, "Set of an empty slot", h.Set(at(7, 2), end(5)), api.ErrEmpty)
	is(t, "Set of an empty slot", h.Set(at(7, 2), api.Cap{}), api.ErrEmpty)
	for _, c := range append(misfits, end(6), api.Cap{Kind: api.KindThread, Obj: 5}) {
		is(t, "Set of what is not alike", h.Set(at(7, 0), c), api.ErrForm)
	}
	is(t, "Set of what is not valid", h.Set(at(7, 1), frame(9, 0)), api.ErrForm)
	mapped := api.Cap{Kind: api.KindFrame, Obj: 9, Rights: 1, Serial: 4, Page: 8}
	is(t, "Set", h.Set(at(7, 1), mapped), api.OK)
	has(t, h, at(7, 1), mapped)
	has(t, h, at(7, 0), end(5))
	list(t, h, node(at(7, 0), 0), node(at(7, 1), 1))
}

func TestP18_2CopyMint(t *testing.T) {
	h := two(t)
	copies := func(from, to api.Slot, want api.Errno) {
		t.Helper()
		is(t, "Copy", h.Copy(from, to, 7), want)
		is(t, "Mint", h.Mint(from, to, 7, 1), want)
	}
	for _, s := range nowhere {
		copies(at(7, 0), s, api.ErrRange)
		copies(s, at(7, 1), api.ErrRange)
		copies(s, at(7, 0), api.ErrRange)
		copies(at(7, 1), s, api.ErrRange)
	}
	copies(at(7, 1), at(7, 2), api.ErrEmpty)
	copies(at(7, 1), at(7, 0), api.ErrEmpty)
	copies(at(7, 1), at(7, 1), api.ErrEmpty)
	copies(at(7, 0), at(7, 0), api.ErrFull)
	is(t, "Copy, bad mask", h.Copy(at(7, 0), at(7, 1), 8), api.ErrArg)
	is(t, "Copy, bad mask, full", h.Copy(at(7, 0), at(7, 0), 8), api.ErrFull)
	is(t, "Mint, bad mask", h.Mint(at(7, 0), at(7, 1), -1, 0), api.ErrArg)
	is(t, "Mint, bad badge", h.Mint(at(7, 0), at(7, 1), 7, 1<<24), api.ErrRange)
	list(t, h, node(at(7, 0), 0))
	is(t, "Copy", h.Copy(at(7, 0), at(8, 1), 1), api.OK)
	has(t, h, at(8, 1), api.Cap{Kind: api.KindEndpoint, Obj: 5, Rights: 1})
	is(t, "Mint", h.Mint(at(8, 1), at(8, 2), 3, 77), api.OK)
	has(t, h, at(8, 2), api.Cap{Kind: api.KindEndpoint, Obj: 5, Rights: 1, Badge: 77})
	is(t, "Mint of a badge", h.Mint(at(8, 2), at(8, 3), 3, 78), api.ErrRights)
	is(t, "Copy", h.Copy(at(7, 0), at(7, 3), 7), api.OK)
	has(t, h, at(7, 3), end(5))
	list(t, h, node(at(7, 0), 0), node(at(7, 3), 1), node(at(8, 1), 1), node(at(8, 2), 2))

	h.Root(at(7, 1), api.Cap{Kind: api.KindUntyped, Obj: 3})
	is(t, "Copy of an untyped", h.Copy(at(7, 1), at(7, 2), 7), api.ErrKind)
	h.Root(at(7, 2), api.Cap{Kind: api.KindFrame, Obj: 9, Rights: 2, Serial: 4, Page: 8})
	is(t, "Copy without rights", h.Copy(at(7, 2), at(8, 3), 1), api.ErrRights)
	is(t, "Mint without data", h.Mint(at(7, 2), at(8, 3), 7, 0), api.OK)
	has(t, h, at(8, 3), frame(9, 2))
	has(t, h, at(7, 2), api.Cap{Kind: api.KindFrame, Obj: 9, Rights: 2, Serial: 4, Page: 8})
}

func TestP18_2MoveSwap(t *testing.T) {
	h := two(t)
	h.Copy(at(7, 0), at(8, 1), 1)
	for _, s := range nowhere {
		is(t, "Move nowhere", h.Move(at(7, 0), s), api.ErrRange)
		is(t, "Move of nothing", h.Move(s, at(7, 1)), api.ErrRange)
		is(t, "Move of nothing, full", h.Move(s, at(7, 0)), api.ErrRange)
		is(t, "Move of an empty slot nowhere", h.Move(at(7, 1), s), api.ErrRange)
		is(t, "Swap", h.Swap(s, at(7, 0)), api.ErrRange)
		is(t, "Swap", h.Swap(at(7, 0), s), api.ErrRange)
		is(t, "Swap", h.Swap(s, s), api.ErrRange)
	}
	is(t, "Move of an empty slot", h.Move(at(7, 1), at(7, 2)), api.ErrEmpty)
	is(t, "Move of an empty slot, full", h.Move(at(7, 1), at(7, 0)), api.ErrEmpty)
	is(t, "Move of an empty slot to itself", h.Move(at(7, 1), at(7, 1)), api.ErrEmpty)
	is(t, "Move, full", h.Move(at(7, 0), at(8, 1)), api.ErrFull)
	is(t, "Move to itself", h.Move(at(8, 1), at(8, 1)), api.ErrFull)
	list(t, h, node(at(7, 0), 0), node(at(8, 1), 1))
	is(t, "Move", h.Move(at(8, 1), at(8, 3)), api.OK)
	has(t, h, at(8, 1), api.Cap{})
	has(t, h, at(8, 3), api.Cap{Kind: api.KindEndpoint, Obj: 5, Rights: 1})
	list(t, h, node(at(7, 0), 0), node(at(8, 3), 1))

	is(t, "Swap", h.Swap(at(7, 0), at(7, 3)), api.OK)
	list(t, h, node(at(7, 3), 0), node(at(8, 3), 1))
	has(t, h, at(7, 0), api.Cap{})
	has(t, h, at(7, 3), end(5))
	is(t, "Swap", h.Swap(at(7, 0), at(7, 3)), api.OK)
	list(t, h, node(at(7, 0), 0), node(at(8, 3), 1))
	is(t, "Swap of both", h.Swap(at(7, 0), at(8, 3)), api.OK)
	list(t, h, node(at(8, 3), 0), node(at(7, 0), 1))
	has(t, h, at(8, 3), end(5))
	has(t, h, at(7, 0), api.Cap{Kind: api.KindEndpoint, Obj: 5, Rights: 1})
	is(t, "Swap with itself", h.Swap(at(8, 3), at(8, 3)), api.OK)
	is(t, "Swap of empty slots", h.Swap(at(7, 1), at(8, 1)), api.OK)
	is(t, "Swap of an empty slot", h.Swap(at(7, 1), at(7, 1)), api.OK)
	list(t, h, node(at(8, 3), 0), node(at(7, 0), 1))
}

func TestP18_2Clear(t *testing.T) {
	h := two(t)
	h.Copy(at(7, 0), at(8, 1), 1)
	h.Copy(at(8, 1), at(8, 2), 1)
	for _, s := range nowhere {
		if c, code := h.Clear(s); c != (api.Cap{}) || code != api.ErrRange {
			t.Errorf("Clear(%v) = %+v, %d", s, c, code)
		}
	}
	if c, code := h.Clear(at(7, 1)); c != (api.Cap{}) || code != api.ErrEmpty {
		t.Errorf("Clear of an empty slot = %+v, %d", c, code)
	}
	if c, code := h.Clear(at(7, 0)); c != end(5) || code != api.OK {
		t.Errorf("Clear = %+v, %d", c, code)
	}
	has(t, h, at(7, 0), api.Cap{})
	list(t, h, node(at(8, 1), 0), node(at(8, 2), 1))
	if c, code := h.Clear(at(7, 0)); c != (api.Cap{}) || code != api.ErrEmpty {
		t.Errorf("Clear again = %+v, %d", c, code)
	}
}

func TestP18_3Final(t *testing.T) {
	h := two(t)
	final := func(s api.Slot, want bool) {
		t.Helper()
		if got := h.Final(s); got != want {
			t.Errorf("Final(%v) = %v", s, got)
		}
	}
	final(at(7, 0), true)
	final(at(7, 1), false)
	for _, s := range nowhere {
		final(s, false)
	}
	h.Copy(at(7, 0), at(8, 1), 1)
	final(at(7, 0), false)
	final(at(8, 1), false)
	h.Clear(at(7, 0))
	final(at(8, 1), true)
	// The same number, another kind; the same kind, another number.
	h.Root(at(7, 0), api.Cap{Kind: api.KindThread, Obj: 5})
	h.Root(at(7, 1), end(6))
	final(at(8, 1), true)
	final(at(7, 0), true)
	final(at(7, 1), true)
	// Capabilities that are no relatives.
	h.Root(at(7, 2), api.Cap{Kind: api.KindEndpoint, Obj: 6, Badge: 4})
	final(at(7, 1), false)
	final(at(7, 2), false)
	h.Root(at(8, 2), api.Cap{Kind: api.KindControl})
	final(at(8, 2), true)
	h.Root(at(8, 3), api.Cap{Kind: api.KindControl})
	final(at(8, 2), false)
}

func TestP18_3BelowUsedTree(t *testing.T) {
	h := two(t)
	h.Copy(at(7, 0), at(8, 1), 1)
	h.Copy(at(8, 1), at(7, 3), 1)
	h.Copy(at(7, 0), at(7, 2), 1)
	if got := h.Below(at(7, 0)); !slices.Equal(got, []api.Slot{at(7, 2), at(8, 1), at(7, 3)}) {
		t.Errorf("Below = %v", got)
	}
	if got := h.Below(at(8, 1)); !slices.Equal(got, []api.Slot{at(7, 3)}) {
		t.Errorf("Below = %v", got)
	}
	if len(h.Below(at(7, 1))) != 0 || len(h.Below(at(9, 9))) != 0 {
		t.Error("Below of an empty slot")
	}
	r := api.Cap{Kind: api.KindEndpoint, Obj: 5, Rights: 1}
	if got := h.Used(); !slices.Equal(got, []api.Held{{Slot: at(7, 0), Cap: end(5)}, {Slot: at(7, 2), Cap: r}, {Slot: at(7, 3), Cap: r}, {Slot: at(8, 1), Cap: r}}) {
		t.Errorf("Used = %+v", got)
	}
	h.Used()[0].Cap = r
	h.Tree()[0].Depth = 4
	h.Below(at(7, 0))[0] = at(1, 1)
	has(t, h, at(7, 0), end(5))
	list(t, h, node(at(7, 0), 0), node(at(7, 2), 1), node(at(8, 1), 1), node(at(7, 3), 2))
}

func TestRandomCalls(t *testing.T) {
	seed := uint32(3)
	next := func(n int) int {
		seed = seed*1664525 + 1013904223
		return int(seed>>8) % n
	}
	h := hold.New()
	for node := 1; node <= 4; node++ {
		h.AddNode(node, 4)
	}
	slot := func() api.Slot { return at(1+next(4), next(5)) }
	kinds := []api.Cap{end(1), end(2), frame(3, 3), frame(3, 1), {Kind: api.KindUntyped, Obj: 1}, {Kind: api.KindNode, Obj: 9, Bits: 8}}
	for range 5000 {
		a, b, c, mask := slot(), slot(), kinds[next(len(kinds))], next(9)
		was, _ := h.Get(a)
		switch next(8) {
		case 0:
			h.Root(a, c)
		case 1:
			h.Child(a, b, c)
		case 2:
			h.Set(a, c)
		case 3:
			if h.Copy(a, b, mask) == api.OK {
				want, _ := derive.Copy(was, mask)
				has(t, h, b, want)
			}
		case 4:
			if h.Mint(a, b, mask, uint64(next(3))) == api.OK {
				if got, _ := h.Get(b); got.Obj != was.Obj || got.Rights&^was.Rights != 0 {
					t.Fatalf("Mint of %+v: %+v", was, got)
				}
			}
		case 5:
			h.Move(a, b)
		case 6:
			h.Swap(a, b)
		default:
			if got, code := h.Clear(a); code == api.OK && got != was {
				t.Fatalf("Clear = %+v; want %+v", got, was)
			}
		}
		together(t, h)
		for _, x := range h.Used() {
			n := 0
			for _, y := range h.Used() {
				if x.Cap.Kind == y.Cap.Kind && x.Cap.Obj == y.Cap.Obj {
					n++
				}
			}
			if h.Final(x.Slot) != (n == 1) {
				t.Fatalf("Final(%v), of whose object there are %d", x.Slot, n)
			}
		}
	}
}

func TestNilHold(t *testing.T) {
	var h *hold.Hold
	a, b := at(1, 0), at(1, 1)
	for i, code := range []api.Errno{h.AddNode(0, 0), h.DropNode(0), h.Root(a, api.Cap{}), h.Child(a, b, api.Cap{}), h.Set(a, end(1)), h.Copy(a, b, 9), h.Mint(a, b, 9, 0), h.Move(a, b), h.Swap(a, b)} {
		if code != api.ErrNil {
			t.Errorf("call %d of a nil hold: %d", i, code)
		}
	}
	if c, code := h.Get(a); c != (api.Cap{}) || code != api.ErrNil {
		t.Error("Get")
	}
	if c, code := h.Clear(a); c != (api.Cap{}) || code != api.ErrNil {
		t.Error("Clear")
	}
	if h.Slots() != nil || h.Final(a) || len(h.Below(a)) != 0 || len(h.Used()) != 0 || len(h.Tree()) != 0 {
		t.Error("a nil hold has something")
	}
}
