package lookup_test

import (
	"math"
	"slices"
	"testing"

	"seisin/api"
	"seisin/arena"
	"seisin/lookup"
	"seisin/slots"
)

func at(node, index int) api.Slot { return api.Slot{Node: node, Index: index} }

func node(obj, guard, bits int) api.Cap {
	return api.Cap{Kind: api.KindNode, Obj: obj, Guard: guard, Bits: bits}
}

// fixture has node 7 of radix 4, node 11 of radix 2, node 12 of radix 1, node
// 13 of radix 3, a frame 17, a thread 18.
func fixture(t *testing.T) (*slots.Slots, *arena.Arena) {
	t.Helper()
	a, code := arena.New(40)
	if code != api.OK {
		t.Fatal(code)
	}
	s := slots.New()
	for _, x := range []struct{ kind, size, first, slots int }{{api.KindNode, 4, 6, 16}, {api.KindNode, 2, 10, 4}, {api.KindNode, 1, 11, 2}, {api.KindNode, 3, 12, 8}, {api.KindFrame, 0, 16, 0}, {api.KindThread, 0, 17, 3}} {
		id, code := a.Add(x.kind, x.size, x.first)
		if code != api.OK || id != x.first+1 {
			t.Fatal(id, code)
		}
		if x.slots > 0 && s.Add(id, x.slots) != api.OK {
			t.Fatal("Add of slots")
		}
	}
	return s, a
}

func set(t *testing.T, s *slots.Slots, x api.Slot, c api.Cap) {
	t.Helper()
	if code := s.Set(x, c); code != api.OK {
		t.Fatalf("Set(%v, %+v): %d", x, c, code)
	}
}

func resolve(t *testing.T, s *slots.Slots, a *arena.Arena, root api.Cap, addr uint64, depth int, want api.Slot, code api.Errno) {
	t.Helper()
	if x, e := lookup.Resolve(s, a, root, addr, depth); x != want || e != code {
		t.Errorf("Resolve(%+v, %x, %d) = %v, %d; want %v, %d", root, addr, depth, x, e, want, code)
	}
}

func path(t *testing.T, s *slots.Slots, a *arena.Arena, root api.Cap, addr uint64, depth int, want ...api.Slot) {
	t.Helper()
	if got := lookup.Path(s, a, root, addr, depth); !slices.Equal(got, want) {
		t.Errorf("Path(%+v, %x, %d) = %v; want %v", root, addr, depth, got, want)
	}
}

func TestP16_1Example(t *testing.T) {
	s, a := fixture(t)
	root := node(7, 0, 8)
	resolve(t, s, a, root, 5, 12, at(7, 5), api.OK)
	resolve(t, s, a, root, 0x105, 12, api.Slot{}, api.ErrLookup)
	resolve(t, s, a, root, 5, 4, api.Slot{}, api.ErrLookup)
	path(t, s, a, root, 5, 12, at(7, 5))
	path(t, s, a, root, 0x105, 12)
	path(t, s, a, root, 5, 4)
}

func TestP16_1OneStep(t *testing.T) {
	s, a := fixture(t)
	for bits := range 13 {
		for _, guard := range []int{0, 1, 1<<uint(bits) - 1} {
			if guard >= 1<<uint(bits) {
				continue
			}
			for _, n := range []struct{ obj, radix int }{{7, 4}, {11, 2}, {12, 1}, {13, 3}} {
				depth := bits + n.radix
				for i := range 1 << uint(n.radix) {
					addr := uint64(guard)<<uint(n.radix) | uint64(i)
					root := node(n.obj, guard, bits)
					if depth > 12 {
						if addr < 4096 {
							resolve(t, s, a, root, addr, 12, api.Slot{}, api.ErrLookup)
						}
						continue
					}
					resolve(t, s, a, root, addr, depth, at(n.obj, i), api.OK)
					path(t, s, a, root, addr, depth, at(n.obj, i))
					if bits > 0 {
						wrong := addr ^ 1<<uint(n.radix)
						resolve(t, s, a, root, wrong, depth, api.Slot{}, api.ErrLookup)
						path(t, s, a, root, wrong, depth)
						if uint64(guard)>>1 == 0 && depth > 1 && addr < 1<<uint(depth-1) {
							resolve(t, s, a, root, addr, depth-1, api.Slot{}, api.ErrLookup)
						}
					}
				}
			}
		}
	}
}

func TestP16_1ManySteps(t *testing.T) {
	s, a := fixture(t)
	set(t, s, at(7, 9), node(11, 1, 2))
	set(t, s, at(11, 2), node(12, 0, 0))
	set(t, s, at(12, 1), node(13, 0, 0))
	root := node(7, 0, 0)
	// 1001 | 01 10 | 1 | 110: twelve bits.
	addr := uint64(0b1001_01_10_1_110)
	resolve(t, s, a, root, addr, 12, at(13, 6), api.OK)
	path(t, s, a, root, addr, 12, at(7, 9), at(11, 2), at(12, 1), at(13, 6))
	resolve(t, s, a, root, addr>>3, 9, at(12, 1), api.OK)
	path(t, s, a, root, addr>>3, 9, at(7, 9), at(11, 2), at(12, 1))
	resolve(t, s, a, root, addr>>4, 8, at(11, 2), api.OK)
	resolve(t, s, a, root, addr>>8, 4, at(7, 9), api.OK)
	// Bits remain, but not enough of them.
	for drop := 1; drop <= 2; drop++ {
		resolve(t, s, a, root, addr>>uint(drop), 12-drop, api.Slot{}, api.ErrLookup)
		path(t, s, a, root, addr>>uint(drop), 12-drop, at(7, 9), at(11, 2), at(12, 1))
	}
	for drop := 5; drop <= 7; drop++ {
		resolve(t, s, a, root, addr>>uint(drop), 12-drop, api.Slot{}, api.ErrLookup)
		path(t, s, a, root, addr>>uint(drop), 12-drop, at(7, 9))
	}
	// The guard of the second step.
	for _, guard := range []uint64{0, 2, 3} {
		wrong := addr&^(3<<6) | guard<<6
		resolve(t, s, a, root, wrong, 12, api.Slot{}, api.ErrLookup)
		path(t, s, a, root, wrong, 12, at(7, 9))
	}
	// An empty slot on the way.
	resolve(t, s, a, root, 0b1000_01_10_1_110, 12, api.Slot{}, api.ErrLookup)
	path(t, s, a, root, 0b1000_01_10_1_110, 12, at(7, 8))
}

func TestP16_1ThroughItself(t *testing.T) {
	s, a := fixture(t)
	set(t, s, at(12, 0), node(12, 0, 0))
	root := node(12, 0, 0)
	for depth := 1; depth <= 12; depth++ {
		resolve(t, s, a, root, 0, depth, at(12, 0), api.OK)
		resolve(t, s, a, root, 1, depth, at(12, 1), api.OK)
		if got := lookup.Path(s, a, root, 1, depth); len(got) != depth {
			t.Errorf("Path of %d steps: %v", depth, got)
		}
	}
}

func TestP16_1BadCapabilities(t *testing.T) {
	s, a := fixture(t)
	for _, root := range []api.Cap{{}, {Kind: api.KindFrame, Obj: 17, Rights: 3}, {Kind: api.KindThread, Obj: 18}, {Kind: api.KindUntyped, Obj: 7}, {Kind: api.KindEndpoint, Obj: 7, Rights: 7}, node(0, 0, 8), node(8, 0, 8), node(17, 0, 8), node(18, 0, 8), node(71, 0, 8), node(7, 0, -1), node(7, 0, 13), node(7, 256, 8), node(7, -1, 8), {Kind: api.KindNode, Obj: 7, Bits: 8, Rights: 1}, {Kind: api.KindNode, Obj: 7, Bits: 8, Badge: 1}, {Kind: api.KindNode, Obj: -7, Bits: 8}} {
		resolve(t, s, a, root, 5, 12, api.Slot{}, api.ErrLookup)
		path(t, s, a, root, 5, 12)
		if root.Obj == 7 {
			continue
		}
		set(t, s, at(7, 1), api.Cap{})
		if s.Set(at(7, 1), root) == api.OK {
			resolve(t, s, a, node(7, 0, 0), 0x105, 12, api.Slot{}, api.ErrLookup)
			path(t, s, a, node(7, 0, 0), 0x105, 12, at(7, 1))
		}
	}
	// The last slot may contain anything.
	set(t, s, at(7, 5), api.Cap{Kind: api.KindFrame, Obj: 17, Rights: 3})
	resolve(t, s, a, node(7, 0, 8), 5, 12, at(7, 5), api.OK)
}

func TestP16_1NodeOfOtherSlots(t *testing.T) {
	s, a := fixture(t)
	if id, code := a.Add(api.KindNode, 4, 20); id != 21 || code != api.OK {
		t.Fatal(id, code)
	}
	// The arena has the node, but there are no slots, or fewer.
	resolve(t, s, a, node(21, 0, 8), 0, 12, api.Slot{}, api.ErrLookup)
	if s.Add(21, 5) != api.OK {
		t.Fatal("Add")
	}
	resolve(t, s, a, node(21, 0, 8), 4, 12, at(21, 4), api.OK)
	resolve(t, s, a, node(21, 0, 8), 5, 12, api.Slot{}, api.ErrLookup)
	path(t, s, a, node(21, 0, 8), 5, 12)
	// The slots are there, but the arena has no such node.
	if s.Add(30, 16) != api.OK {
		t.Fatal("Add")
	}
	resolve(t, s, a, node(30, 0, 8), 0, 12, api.Slot{}, api.ErrLookup)
}

func TestP16_1Errors(t *testing.T) {
	s, a := fixture(t)
	root := node(7, 0, 8)
	for _, x := range []struct {
		addr  uint64
		depth int
	}{{0, 0}, {0, -1}, {0, 13}, {0, math.MinInt}, {0, math.MaxInt}, {4096, 12}, {math.MaxUint64, 12}, {16, 4}, {2, 1}, {1 << 63, 12}} {
		resolve(t, s, a, root, x.addr, x.depth, api.Slot{}, api.ErrRange)
		resolve(t, s, a, api.Cap{}, x.addr, x.depth, api.Slot{}, api.ErrRange)
		path(t, s, a, root, x.addr, x.depth)
		resolve(t, nil, a, root, x.addr, x.depth, api.Slot{}, api.ErrNil)
		resolve(t, s, nil, root, x.addr, x.depth, api.Slot{}, api.ErrNil)
		path(t, nil, a, root, x.addr, x.depth)
	}
	resolve(t, nil, nil, root, 5, 12, api.Slot{}, api.ErrNil)
	path(t, s, nil, root, 5, 12)
	path(t, nil, a, root, 5, 12)
	resolve(t, s, a, node(7, 255, 8), 4095, 12, at(7, 15), api.OK)
}
