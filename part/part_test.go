package part_test

import (
	"fmt"
	"math"
	"slices"
	"testing"

	"seisin/api"
	"seisin/part"
	"seisin/world"
)

// equal compares two values as they are printed, so that a list that is nil
// and one that is empty are the same.
func equal(a, b any) bool { return fmt.Sprintf("%+v", a) == fmt.Sprintf("%+v", b) }

func at(node, index int) api.Slot { return api.Slot{Node: node, Index: index} }

func held(node, index int, c api.Cap) api.Held { return api.Held{Slot: at(node, index), Cap: c} }

func boot(t *testing.T, c api.Config) api.View {
	t.Helper()
	w, code := world.New(c)
	if code != api.OK {
		t.Fatal(code)
	}
	return w.View()
}

func reach(t *testing.T, v api.View, threads []int, want ...int) {
	t.Helper()
	if got := part.Reach(v, threads); !slices.Equal(got, want) {
		t.Errorf("Reach(%v) = %v; want %v", threads, got, want)
	}
}

func leans(t *testing.T, v api.View, threads []int, want ...int) {
	t.Helper()
	if got := part.Leans(v, threads); !slices.Equal(got, want) {
		t.Errorf("Leans(%v) = %v; want %v", threads, got, want)
	}
}

func apart(t *testing.T, what string, v api.View, as, bs []int, want bool) {
	t.Helper()
	if got := part.Apart(v, as, bs); got != want {
		t.Errorf("%s: Apart(%v, %v) = %v", what, as, bs, got)
	}
	if got := part.Apart(v, bs, as); got != want {
		t.Errorf("%s, the other way round: Apart(%v, %v) = %v", what, bs, as, got)
	}
}

func TestP34_1ReachOfBoots(t *testing.T) {
	v := boot(t, api.Config{Frames: 40, Cores: 1, Threads: 2})
	reach(t, v, []int{1}, 0, 1, 2, 6, 7, 15)
	reach(t, v, []int{8}, 8, 9, 13, 14, 28)
	reach(t, v, []int{8, 1, 8}, 0, 1, 2, 6, 7, 8, 9, 13, 14, 15, 28)
	reach(t, v, nil)
	reach(t, v, []int{99, -1, math.MinInt})
	v = boot(t, api.Config{Frames: 40, Cores: 1, Threads: 2, Shared: true})
	reach(t, v, []int{8}, 8, 9, 13, 14, 15, 28)
}

func TestP34_1Reach(t *testing.T) {
	v := api.View{Objects: []api.Object{{ID: 1, Kind: api.KindThread}, {ID: 2, Kind: api.KindNode}, {ID: 3, Kind: api.KindNode}, {ID: 4, Kind: api.KindThread}, {ID: 5, Kind: api.KindFrame}, {ID: 6, Kind: api.KindEndpoint}, {ID: 7, Kind: api.KindRoot}, {ID: 8, Kind: api.KindPool}}}
	reach(t, v, []int{1}, 1)
	v.Caps = []api.Held{
		held(3, 0, api.Cap{Kind: api.KindThread, Obj: 4}), held(2, 5, api.Cap{Kind: api.KindNode, Obj: 3}), held(1, 0, api.Cap{Kind: api.KindNode, Obj: 2}),
		held(4, 2, api.Cap{Kind: api.KindEndpoint, Obj: 6}), held(4, 0, api.Cap{Kind: api.KindNode, Obj: 2}),
		// What is in the slots of other objects, objects that are not there, and nothing.
		held(6, 0, api.Cap{Kind: api.KindRoot, Obj: 7}), held(3, 1, api.Cap{Kind: api.KindFrame, Obj: 50}), held(3, 2, api.Cap{Obj: 8}),
	}
	reach(t, v, []int{1}, 1, 2, 3, 4, 6)
	reach(t, v, []int{4}, 2, 3, 4, 6)
	v.Caps = append(v.Caps, held(4, 1, api.Cap{Kind: api.KindControl}))
	reach(t, v, []int{1}, 0, 1, 2, 3, 4, 6)
	v.Caps = append(v.Caps, held(2, 9, api.Cap{Kind: api.KindPool, Obj: 8}))
	reach(t, v, []int{4}, 0, 2, 3, 4, 6, 8)
	// Of several objects with one number the first one counts.
	v.Objects = append(v.Objects, api.Object{ID: 6, Kind: api.KindNode})
	reach(t, v, []int{4}, 0, 2, 3, 4, 6, 8)
	v.Objects = append(v.Objects, api.Object{ID: 9, Kind: api.KindFrame})
	v.Caps = append(v.Caps, held(3, 3, api.Cap{Kind: api.KindFrame, Obj: 9}))
	reach(t, v, []int{4}, 0, 2, 3, 4, 6, 8, 9)
	v.Objects[5].Kind = api.KindNode
	reach(t, v, []int{4}, 0, 2, 3, 4, 6, 7, 8, 9)
}

func TestP34_1Slots(t *testing.T) {
	v := api.View{Caps: []api.Held{held(3, 0, api.Cap{Kind: 3}), held(1, 5, api.Cap{Kind: 4}), held(-2, 0, api.Cap{Kind: 1}), held(3, 1, api.Cap{})}}
	for _, x := range []struct {
		objects []int
		want    []api.Slot
	}{{nil, nil}, {[]int{3}, []api.Slot{at(3, 0), at(3, 1)}}, {[]int{1, 3, 3}, []api.Slot{at(3, 0), at(1, 5), at(3, 1)}}, {[]int{-2}, []api.Slot{at(-2, 0)}}, {[]int{0, 4}, nil}} {
		if got := part.Slots(v, x.objects); !slices.Equal(got, x.want) {
			t.Errorf("Slots(%v) = %v; want %v", x.objects, got, x.want)
		}
	}
}

// spaces is a boot in which thread 1's root 6 has serial 1, and thread 8's
// root 13 serial 4.
func spaces(t *testing.T) api.View {
	return boot(t, api.Config{Frames: 40, Cores: 2, Threads: 2})
}

func TestP34_1Leans(t *testing.T) {
	v := spaces(t)
	leans(t, v, []int{1}, 0, 1, 2, 6, 7, 15)
	leans(t, v, []int{8}, 8, 9, 13, 14, 28)
	// A pool of another one, in which the root has its number.
	v.Pools[0].Roots[3], v.Pools[0].Serials[3] = 13, 3
	leans(t, v, []int{8}, 7, 8, 9, 13, 14, 28)
	v = spaces(t)
	v.Objects = append(v.Objects, api.Object{ID: 50, Kind: api.KindTable, Serial: 4}, api.Object{ID: 51, Kind: api.KindTable, Serial: 1}, api.Object{ID: 52, Kind: api.KindFrame, Serial: 4}, api.Object{ID: 53, Kind: api.KindTable, Serial: 36}, api.Object{ID: 54, Kind: api.KindTable})
	leans(t, v, []int{8}, 8, 9, 13, 14, 28, 50)
	v.Objects = append(v.Objects, api.Object{ID: 60, Kind: api.KindEndpoint}, api.Object{ID: 61, Kind: api.KindThread})
	v.Threads[1].Wait, v.Threads[1].Caller = 60, 61
	leans(t, v, []int{8}, 8, 9, 13, 14, 28, 50, 60, 61)
	leans(t, v, []int{1}, 0, 1, 2, 6, 7, 15, 51)
	v.Threads[0].Caller = 8
	leans(t, v, []int{8}, 1, 8, 9, 13, 14, 28, 50, 60, 61)
	v.Threads[0].Caller = 9
	leans(t, v, []int{8}, 8, 9, 13, 14, 28, 50, 60, 61)
	leans(t, v, nil)
	leans(t, v, []int{99})
}

func TestP34_1Maps(t *testing.T) {
	v := spaces(t)
	for i, serial := range []int{4, 1, 36, 0, 4} {
		v.Caps = append(v.Caps, held(70-i, i, api.Cap{Kind: api.KindFrame, Obj: 40, Rights: 1, Serial: serial}))
	}
	v.Caps = append(v.Caps, held(71, 0, api.Cap{Kind: api.KindTable, Obj: 40, Serial: 4}))
	for _, x := range []struct {
		threads []int
		want    []api.Slot
	}{{[]int{8}, []api.Slot{at(70, 0), at(66, 4)}}, {[]int{1}, []api.Slot{at(69, 1)}}, {[]int{1, 8}, []api.Slot{at(70, 0), at(69, 1), at(66, 4)}}, {nil, nil}, {[]int{99}, nil}} {
		if got := part.Maps(v, x.threads); !slices.Equal(got, x.want) {
			t.Errorf("Maps(%v) = %v; want %v", x.threads, got, x.want)
		}
	}
}

func TestP34_2Boots(t *testing.T) {
	for frames := 22; frames <= 64; frames += 7 {
		for cores := 1; cores <= 3; cores++ {
			apart(t, "a boot", boot(t, api.Config{Frames: frames, Cores: cores, Threads: 2}), []int{1}, []int{8}, true)
			apart(t, "a shared boot", boot(t, api.Config{Frames: frames, Cores: cores, Threads: 2, Shared: true}), []int{1}, []int{8}, false)
		}
	}
	v := boot(t, api.Config{Frames: 33, Cores: 1, Threads: 3})
	apart(t, "three threads", v, []int{1}, []int{8, 15}, true)
	apart(t, "three threads", v, []int{15, 1}, []int{8}, true)
	apart(t, "three threads", v, []int{1, 8, 15}, nil, true)
}

func TestP34_2Threads(t *testing.T) {
	v := spaces(t)
	for _, x := range [][2][]int{{{1}, nil}, {{1}, {1}}, {{1}, {8, 8}}, {{1, 8}, {8}}, {{1}, {8, 99}}, {nil, nil}, {{1}, {9}}, {{1, 1}, {8}}, {{1}, {-8}}} {
		apart(t, "other threads", v, x[0], x[1], false)
	}
	apart(t, "one group", v, []int{8, 1}, nil, true)
	v.Threads = append(v.Threads, v.Threads[0])
	apart(t, "two threads with one ID", v, []int{1}, []int{8}, false)
	apart(t, "two threads with one ID", v, []int{1}, []int{1, 8}, false)
	apart(t, "two threads with one ID", v, []int{1, 1}, []int{8}, false)
	v = spaces(t)
	slices.Reverse(v.Threads)
	apart(t, "threads in another order", v, []int{1}, []int{8}, true)
	apart(t, "nothing", api.View{}, nil, nil, true)
}

// with adds a capability to a view, and its slot to the tree: below the slot
// above, if that is in the tree, and else at the end.
func with(v api.View, above, s api.Slot, c api.Cap) api.View {
	v.Caps = append(slices.Clone(v.Caps), api.Held{Slot: s, Cap: c})
	i := slices.IndexFunc(v.Tree, func(n api.Node) bool { return n.Slot == above })
	n := api.Node{Slot: s}
	if i < 0 {
		i = len(v.Tree) - 1
	} else {
		n.Depth = v.Tree[i].Depth + 1
	}
	v.Tree = slices.Insert(slices.Clone(v.Tree), i+1, n)
	return v
}

var nowhere = at(-1, -1)

func TestP34_2Depends(t *testing.T) {
	v := spaces(t)
	v.Objects = append(v.Objects, api.Object{ID: 40, Kind: api.KindEndpoint}, api.Object{ID: 41, Kind: api.KindFrame}, api.Object{ID: 42, Kind: api.KindNode}, api.Object{ID: 43, Kind: api.KindRoot})
	for _, x := range []struct {
		kind, obj int
		want      bool
	}{{api.KindEndpoint, 40, false}, {api.KindNode, 42, false}, {api.KindFrame, 41, true}, {api.KindRoot, 43, false}, {api.KindControl, 0, false}} {
		c := api.Cap{Kind: x.kind, Obj: x.obj, Rights: 1}
		one := with(v, nowhere, at(9, 10), c)
		apart(t, "a capability of one", one, []int{1}, []int{8}, x.kind != api.KindControl)
		both := with(one, nowhere, at(2, 10), c)
		apart(t, "a capability of both", both, []int{1}, []int{8}, x.want)
	}
	// Threads that wait at the same endpoint, or for each other.
	w := spaces(t)
	w.Objects = append(w.Objects, api.Object{ID: 40, Kind: api.KindEndpoint}, api.Object{ID: 41, Kind: api.KindEndpoint})
	w.Threads[0].Wait, w.Threads[1].Wait = 40, 40
	apart(t, "they wait at the same endpoint", w, []int{1}, []int{8}, false)
	w.Threads[1].Wait = 41
	apart(t, "they wait at others", w, []int{1}, []int{8}, true)
	w = spaces(t)
	w.Threads[0].Caller = 8
	apart(t, "one waits for the other", w, []int{1}, []int{8}, false)
	w = spaces(t)
	w.Pools[1].Roots[2] = 6
	apart(t, "a number of another pool", w, []int{1}, []int{8}, false)
}

func TestP34_2Frames(t *testing.T) {
	v := spaces(t)
	v.Objects = append(v.Objects, api.Object{ID: 41, Kind: api.KindFrame}, api.Object{ID: 42, Kind: api.KindFrame})
	frame := func(obj, rights, serial int) api.Cap {
		return api.Cap{Kind: api.KindFrame, Obj: obj, Rights: rights, Serial: serial}
	}
	for _, a := range []int{0, 1, 2, 3, 4, -1, 1 << 40, 1<<40 | 2} {
		for _, b := range []int{0, 1, 2, 3} {
			x := with(v, nowhere, at(2, 10), frame(41, a, 0))
			x = with(x, nowhere, at(9, 10), frame(41, b, 0))
			apart(t, "a frame of both", x, []int{1}, []int{8}, a&2 == 0 && b&2 == 0)
			x = with(v, nowhere, at(2, 10), frame(41, a, 0))
			x = with(x, nowhere, at(9, 10), frame(42, b, 0))
			apart(t, "a frame of each", x, []int{1}, []int{8}, true)
			// The map of one lies in a slot of nobody.
			x = with(v, nowhere, at(50, 0), frame(41, a, 1))
			x = with(x, nowhere, at(9, 10), frame(41, b, 0))
			apart(t, "a map, and a frame", x, []int{1}, []int{8}, a&2 == 0 && b&2 == 0)
			x = with(v, nowhere, at(50, 0), frame(41, a, 1))
			x = with(x, nowhere, at(50, 1), frame(41, b, 4))
			apart(t, "two maps", x, []int{1}, []int{8}, a&2 == 0 && b&2 == 0)
		}
	}
	// A second capability of one of them, with Write.
	x := with(v, nowhere, at(2, 10), frame(41, 1, 0))
	x = with(x, nowhere, at(9, 10), frame(41, 1, 0))
	apart(t, "both read", x, []int{1}, []int{8}, true)
	x = with(x, nowhere, at(9, 11), frame(41, 3, 0))
	apart(t, "one writes, too", x, []int{1}, []int{8}, false)
}

func TestP34_2SlotsAndTree(t *testing.T) {
	v := spaces(t)
	v.Objects = append(v.Objects, api.Object{ID: 41, Kind: api.KindFrame}, api.Object{ID: 44, Kind: api.KindTable, Serial: 4}, api.Object{ID: 45, Kind: api.KindTable})
	frame := api.Cap{Kind: api.KindFrame, Obj: 41, Rights: 1, Serial: 4}
	apart(t, "a map of thread 8 in nobody's slot", with(v, nowhere, at(50, 0), frame), []int{1}, []int{8}, true)
	apart(t, "a map of thread 8 in a slot of thread 1", with(v, nowhere, at(2, 10), frame), []int{1}, []int{8}, false)
	apart(t, "a map of thread 8 in its own slot", with(v, nowhere, at(9, 10), frame), []int{1}, []int{8}, true)
	apart(t, "a map of thread 8 below a slot of thread 1", with(v, at(2, 3), at(50, 0), frame), []int{1}, []int{8}, false)
	apart(t, "a map of thread 8 below its own slot", with(v, at(9, 3), at(50, 0), frame), []int{1}, []int{8}, true)
	frame.Serial = 0
	apart(t, "a slot of thread 8 below one of thread 1", with(v, at(2, 3), at(9, 10), frame), []int{1}, []int{8}, false)
	apart(t, "a slot of nobody below one of thread 1", with(v, at(2, 3), at(50, 0), frame), []int{1}, []int{8}, true)
	// A slot of nobody, with a capability of what thread 8 depends on.
	table := api.Cap{Kind: api.KindTable, Obj: 44}
	apart(t, "a table of thread 8 in a slot of thread 1", with(v, nowhere, at(2, 10), table), []int{1}, []int{8}, false)
	apart(t, "a table of thread 8 in nobody's slot", with(v, nowhere, at(50, 0), table), []int{1}, []int{8}, true)
	apart(t, "a table of thread 8 below a slot of thread 1", with(v, at(2, 3), at(50, 0), table), []int{1}, []int{8}, false)
	table.Obj = 45
	apart(t, "another table below a slot of thread 1", with(v, at(2, 3), at(50, 0), table), []int{1}, []int{8}, true)
	control := api.Cap{Kind: api.KindControl}
	apart(t, "control below a slot of thread 8", with(v, at(9, 3), at(50, 0), control), []int{1}, []int{8}, false)
	apart(t, "control below a slot of thread 1", with(v, at(2, 3), at(50, 0), control), []int{1}, []int{8}, true)
	// Deeper, and behind a slot that is not below.
	deep := with(v, at(2, 3), at(50, 0), frame)
	deep = with(deep, at(50, 0), at(9, 10), frame)
	apart(t, "deeper below", deep, []int{1}, []int{8}, false)
	frame.Rights = 1
	side := with(v, nowhere, at(50, 0), frame)
	side = with(side, at(50, 0), at(9, 10), frame)
	apart(t, "below a slot of nobody", side, []int{1}, []int{8}, true)
}

func TestP34_3StaysApart(t *testing.T) {
	w, code := world.New(api.Config{Frames: 60, Cores: 2, Threads: 2})
	if code != api.OK {
		t.Fatal(code)
	}
	groups := map[int][]int{1: {1}, 8: {8}}
	for _, id := range []int{1, 8} {
		call := func(op uint64, args ...uint64) {
			t.Helper()
			known := w.View().Threads
			w.Do(api.Event{Kind: api.EvPick, Thread: id})
			e := api.Event{Kind: api.EvCall, Call: api.Call{Op: op}}
			copy(e.Call.Args[:], args)
			if s := w.Do(e); s.Code != api.OK || s.Notes[0].Code != api.OK {
				t.Fatalf("%+v: %+v", e, s)
			}
			for _, x := range w.View().Threads {
				if !slices.ContainsFunc(known, func(y api.Thread) bool { return y.ID == x.ID }) {
					groups[id] = append(groups[id], x.ID)
				}
			}
			groups[id] = slices.DeleteFunc(groups[id], func(id int) bool {
				return !slices.ContainsFunc(w.View().Threads, func(x api.Thread) bool { return x.ID == id })
			})
			apart(t, "after a call", w.View(), groups[1], groups[8], true)
		}
		call(api.OpRetype, 3, api.KindTable, 0, 1, 8, 2)
		call(api.OpRetype, 3, api.KindFrame, 0, 1, 10, 2)
		call(api.OpRetype, 3, api.KindThread, 0, 1, 12, 2)
		call(api.OpRetype, 3, api.KindEndpoint, 0, 1, 14, 1)
		call(api.OpMapTable, 8, 4, 0)
		call(api.OpMapTable, 9, 4, 0)
		call(api.OpMapFrame, 10, 4, 0, 3)
		call(api.OpBind, 12, api.SlotNodes, 1)
		call(api.OpBind, 12, api.SlotPager, 14)
		call(api.OpResume, 12)
		call(api.OpDelete, 13)
	}
	if len(groups[1]) != 2 || len(groups[8]) != 2 {
		t.Errorf("groups: %v", groups)
	}
}

func TestKeepsItsArguments(t *testing.T) {
	v, same := spaces(t), spaces(t)
	as, bs := append(make([]int, 0, 8), 8), append(make([]int, 0, 8), 1)
	part.Apart(v, as, bs)
	part.Leans(v, as)
	part.Maps(v, as)
	part.Slots(v, part.Reach(v, as))
	if !equal(v, same) || as[:2][1] != 0 || bs[:2][1] != 0 || as[0] != 8 {
		t.Error("an argument was changed")
	}
}

func TestManyNodes(t *testing.T) {
	const n = 20000
	var v api.View
	for i := 1; i <= n; i++ {
		v.Objects = append(v.Objects, api.Object{ID: i, Kind: api.KindNode})
		if i > 1 {
			// In the order that is the worst for one pass after another.
			v.Caps = append(v.Caps, held(i, 0, api.Cap{Kind: api.KindNode, Obj: i - 1}))
		}
	}
	v.Objects[n-1].Kind = api.KindThread
	v.Threads = []api.Thread{{ID: n}}
	if got := part.Reach(v, []int{n}); len(got) != n {
		t.Errorf("%d objects are reached", len(got))
	}
	apart(t, "a long chain", v, []int{n}, nil, true)
}
