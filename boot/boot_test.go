package boot_test

import (
	"fmt"
	"math"
	"slices"
	"testing"

	"seisin/api"
	"seisin/boot"
)

// equal compares two values as they are printed, so that a list that is nil
// and one that is empty are the same.
func equal(a, b any) bool { return fmt.Sprintf("%+v", a) == fmt.Sprintf("%+v", b) }

// configs are all configurations in and around the bounds.
func configs() []api.Config {
	var list []api.Config
	for frames := -1; frames <= 66; frames++ {
		for cores := -1; cores <= 4; cores++ {
			for threads := -1; threads <= 4; threads++ {
				for _, shared := range []bool{false, true} {
					list = append(list, api.Config{Frames: frames, Cores: cores, Threads: threads, Shared: shared})
				}
			}
		}
	}
	for _, n := range []int{math.MinInt, 1 << 40, math.MaxInt} {
		list = append(list, api.Config{Frames: n, Cores: 1, Threads: 1}, api.Config{Frames: 40, Cores: n, Threads: 1}, api.Config{Frames: 40, Cores: 1, Threads: n}, api.Config{Frames: n, Cores: n, Threads: n})
	}
	return list
}

func may(c api.Config) bool {
	return c.Threads >= 1 && c.Threads <= 3 && c.Cores >= 1 && c.Cores <= 3 && c.Frames >= 11*c.Threads && c.Frames <= 64
}

// model is the view of the initial state, from the chapter's words.
func model(c api.Config) (api.View, []int) {
	var v api.View
	first := 0
	add := func(kind, size, frames int) int {
		id := first + 1
		v.Objects = append(v.Objects, api.Object{ID: id, Kind: kind, Size: size, First: first, Frames: frames})
		first += frames
		return id
	}
	var threads, nodes, roots, pools, untypeds []int
	for range c.Threads {
		threads = append(threads, add(api.KindThread, 0, 1))
		nodes = append(nodes, add(api.KindNode, 4, 4))
		roots = append(roots, add(api.KindRoot, 0, 1))
		pools = append(pools, add(api.KindPool, 0, 1))
	}
	end := 0
	if c.Shared {
		end = add(api.KindEndpoint, 0, 1)
	}
	u := (c.Frames - first) / c.Threads
	for range c.Threads {
		untypeds = append(untypeds, add(api.KindUntyped, u, u))
	}
	held := func(node, index int, x api.Cap) {
		v.Caps = append(v.Caps, api.Held{Slot: api.Slot{Node: node, Index: index}, Cap: x})
	}
	tree := func(node, index, depth int) {
		v.Tree = append(v.Tree, api.Node{Slot: api.Slot{Node: node, Index: index}, Depth: depth})
	}
	for i, n := range nodes {
		nodeCap, rootCap := api.Cap{Kind: api.KindNode, Obj: n, Bits: 8}, api.Cap{Kind: api.KindRoot, Obj: roots[i]}
		held(n, 1, nodeCap)
		held(n, 2, api.Cap{Kind: api.KindThread, Obj: threads[i]})
		held(n, 3, api.Cap{Kind: api.KindUntyped, Obj: untypeds[i]})
		held(n, 4, rootCap)
		tree(n, 1, 0)
		tree(threads[i], api.SlotNodes, 1)
		tree(n, 2, 0)
		tree(n, 3, 0)
		tree(n, 4, 0)
		tree(threads[i], api.SlotSpace, 1)
		if i == 0 {
			held(n, 5, api.Cap{Kind: api.KindControl})
			tree(n, 5, 0)
		}
		held(n, 6, api.Cap{Kind: api.KindPool, Obj: pools[i]})
		tree(n, 6, 0)
		held(threads[i], api.SlotNodes, nodeCap)
		held(threads[i], api.SlotSpace, rootCap)
		number := 4 * i
		if i == 0 {
			number = 1
		}
		v.Pools[i].Obj = pools[i]
		v.Pools[i].Roots[number%4] = roots[i]
		v.Pools[i].Serials[number%4] = number
		v.Threads = append(v.Threads, api.Thread{ID: threads[i], State: api.Ready, Prio: 1, Give: 4096, In: 4096})
	}
	if c.Shared {
		held(nodes[0], 7, api.Cap{Kind: api.KindEndpoint, Obj: end, Rights: 7})
		tree(nodes[0], 7, 0)
		at := len(v.Tree)
		for i := 1; i < c.Threads; i++ {
			held(nodes[i], 7, api.Cap{Kind: api.KindEndpoint, Obj: end, Rights: 7, Badge: uint64(i + 1)})
			held(threads[i], api.SlotPager, api.Cap{Kind: api.KindEndpoint, Obj: end, Rights: 7, Badge: uint64(101 + i)})
			// Each child is inserted directly after its parent.
			v.Tree = slices.Insert(v.Tree, at, api.Node{Slot: api.Slot{Node: threads[i], Index: api.SlotPager}, Depth: 1}, api.Node{Slot: api.Slot{Node: nodes[i], Index: 7}, Depth: 1})
		}
	}
	slices.SortFunc(v.Caps, func(a, b api.Held) int {
		return (a.Slot.Node-b.Slot.Node)*100 + a.Slot.Index - b.Slot.Index
	})
	v.Cores = make([]int, c.Cores)
	v.Queue = threads
	return v, threads
}

func TestP30_1May(t *testing.T) {
	for _, c := range configs() {
		if got := boot.May(c); got != may(c) {
			t.Errorf("May(%+v) = %v", c, got)
		}
	}
}

func TestP30_1New(t *testing.T) {
	for _, c := range configs() {
		k, threads, code := boot.New(c)
		if !may(c) {
			if k != nil || len(threads) != 0 || code != api.ErrRange {
				t.Errorf("New(%+v) = %v, %v, %d", c, k, threads, code)
			}
			continue
		}
		if k == nil || code != api.OK {
			t.Fatalf("New(%+v): %d", c, code)
		}
		want, ids := model(c)
		if !slices.Equal(threads, ids) {
			t.Errorf("New(%+v): the threads %v; want %v", c, threads, ids)
		}
		if got := k.Realm().View(); !equal(got, want) {
			t.Fatalf("New(%+v): the view\n%+v; want\n%+v", c, got, want)
		}
		if k.Realm().Mem().Frames() != c.Frames || k.Realm().Cores().Len() != c.Cores {
			t.Errorf("New(%+v): %d frames, %d cores", c, k.Realm().Mem().Frames(), k.Realm().Cores().Len())
		}
		for f := range c.Frames {
			if w, _ := k.Realm().Mem().Words(f); !slices.Equal(w, make([]uint64, 8)) {
				t.Errorf("New(%+v): frame %d: %v", c, f, w)
			}
		}
		for core := range c.Cores {
			if root, space, code := k.Realm().Cores().Regs(core); root != -1 || space != 0 || code != api.OK || len(k.Realm().Cores().All(core)) != 0 {
				t.Errorf("New(%+v): core %d: %d, %d", c, core, root, space)
			}
		}
	}
}

func TestP30_1Example(t *testing.T) {
	k, threads, code := boot.New(api.Config{Frames: 22, Cores: 1, Threads: 2})
	if code != api.OK || !slices.Equal(threads, []int{1, 8}) {
		t.Fatalf("New: %v, %d", threads, code)
	}
	for id, want := range map[int]api.Object{
		2:  {ID: 2, Kind: api.KindNode, Size: 4, First: 1, Frames: 4},
		15: {ID: 15, Kind: api.KindUntyped, Size: 4, First: 14, Frames: 4},
		19: {ID: 19, Kind: api.KindUntyped, Size: 4, First: 18, Frames: 4},
	} {
		if o, ok := k.Realm().Arena().Get(id); o != want || !ok {
			t.Errorf("the object %d: %+v", id, o)
		}
	}
	if !boot.May(api.Config{Frames: 33, Cores: 3, Threads: 3, Shared: true}) || boot.May(api.Config{Frames: 21, Cores: 1, Threads: 2}) {
		t.Error("May")
	}
}

func TestP30_1AddressesWork(t *testing.T) {
	k, threads, _ := boot.New(api.Config{Frames: 40, Cores: 1, Threads: 3, Shared: true})
	for _, id := range threads {
		for addr := range 16 {
			if s, code := k.Realm().Find(id, addr); s != (api.Slot{Node: id + 1, Index: addr}) || code != api.OK {
				t.Errorf("Find(%d, %d) = %v, %d", id, addr, s, code)
			}
		}
	}
	a, threadsA, _ := boot.New(api.Config{Frames: 40, Cores: 1, Threads: 3})
	b, _, _ := boot.New(api.Config{Frames: 40, Cores: 1, Threads: 3})
	a.Realm().Halt(1)
	threadsA[0] = 9
	if rec, _ := b.Realm().Threads().Get(1); rec.State != api.Ready {
		t.Error("two kernels share their state")
	}
}
