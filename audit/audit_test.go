package audit_test

import (
	"fmt"
	"math"
	"slices"
	"testing"

	"seisin/api"
	"seisin/audit"
	"seisin/world"
)

// equal compares two values as they are printed, so that a list that is nil
// and one that is empty are the same.
func equal(a, b any) bool { return fmt.Sprintf("%+v", a) == fmt.Sprintf("%+v", b) }

var config = api.Config{Frames: 40, Cores: 2, Threads: 2, Shared: true}

func start(t *testing.T) *world.World {
	t.Helper()
	w, code := world.New(config)
	if code != api.OK {
		t.Fatal(code)
	}
	return w
}

func boot(t *testing.T) api.View {
	t.Helper()
	return start(t).View()
}

func finds(t *testing.T, what string, v api.View, want ...api.Finding) {
	t.Helper()
	if got := audit.Check(v); !slices.Equal(got, want) {
		t.Errorf("%s: %+v; want %+v", what, got, want)
	}
}

func finding(kind, a, b int) api.Finding { return api.Finding{Kind: kind, A: a, B: b} }

func TestP33_1Boots(t *testing.T) {
	for frames := 11; frames <= 64; frames++ {
		for threads := 1; threads <= 3; threads++ {
			for _, shared := range []bool{false, true} {
				w, code := world.New(api.Config{Frames: frames, Cores: 1, Threads: threads, Shared: shared})
				if code == api.OK {
					finds(t, "a boot's", w.View())
				}
			}
		}
	}
	finds(t, "an empty view", api.View{})
}

func object(id, kind, first, frames, mark int) api.Object {
	return api.Object{ID: id, Kind: kind, First: first, Frames: frames, Mark: mark}
}

func TestP33_1Overlaps(t *testing.T) {
	check := func(x, y api.Object, want ...api.Finding) {
		t.Helper()
		finds(t, "two objects", api.View{Objects: []api.Object{x, y}}, want...)
		finds(t, "two objects, the other way round", api.View{Objects: []api.Object{y, x}}, want...)
	}
	f := func(id, first, frames int) api.Object { return object(id, api.KindFrame, first, frames, 0) }
	u := func(id, first, frames int) api.Object {
		return object(id, api.KindUntyped, first, frames, frames)
	}
	check(f(3, 4, 1), f(5, 4, 1), finding(1, 3, 5))
	check(f(5, 4, 2), f(3, 5, 2), finding(1, 3, 5))
	check(f(3, 4, 1), f(5, 5, 1))
	check(f(3, 4, 0), f(5, 4, 1))
	check(f(3, 4, 1), f(3, 4, 1))
	check(u(3, 4, 4), f(5, 4, 4))
	check(u(3, 4, 4), f(5, 7, 1))
	check(u(3, 4, 4), f(5, 7, 2), finding(1, 3, 5))
	check(u(3, 4, 4), f(5, 3, 2), finding(1, 3, 5))
	check(u(3, 4, 4), f(5, 8, 1))
	check(u(3, 4, 4), u(5, 4, 4))
	check(u(3, 4, 4), u(5, 3, 6))
	check(u(3, 4, 4), u(5, 6, 4), finding(1, 3, 5))
	// A frame that contains an untyped, and numbers that are no frames.
	check(f(3, 4, 4), u(5, 5, 1), finding(1, 3, 5))
	check(f(3, -1, 4), f(5, 0, 4))
	check(f(3, 0, math.MaxInt), f(5, 0, 4))
	check(f(-7, 4, 1), f(-9, 4, 1), finding(1, -9, -7))
	three := api.View{Objects: []api.Object{f(9, 0, 3), f(1, 1, 1), f(4, 2, 1), f(2, 0, 1)}}
	finds(t, "several", three, finding(1, 1, 9), finding(1, 2, 9), finding(1, 4, 9))
}

func TestP33_1Capabilities(t *testing.T) {
	v := boot(t)
	for i, h := range v.Caps {
		for n, c := range []api.Cap{{}, {Kind: 99}, {Kind: api.KindFrame, Obj: h.Cap.Obj}, {Kind: api.KindTable, Obj: 1}, {Kind: api.KindRoot, Obj: 2}, {Kind: api.KindThread, Obj: 3}, {Kind: api.KindControl, Obj: 1}, {Kind: api.KindNode, Obj: 2, Bits: 13}} {
			x := boot(t)
			x.Caps[i].Cap = c
			got := audit.Check(x)
			if !slices.Contains(got, finding(2, h.Slot.Node, h.Slot.Index)) {
				t.Errorf("capability %d of %v: %+v", n, h.Slot, got)
			}
		}
	}
	x := boot(t)
	x.Caps[0].Cap = api.Cap{Kind: api.KindControl}
	finds(t, "control", x)
	// An object that went, and one that became of another kind.
	x = boot(t)
	x.Objects = slices.DeleteFunc(x.Objects, func(o api.Object) bool { return o.Kind == api.KindEndpoint })
	finds(t, "no endpoint", x, finding(2, 2, 7), finding(2, 8, 2), finding(2, 9, 7))
	for i := range x.Objects {
		if x.Objects[i].ID == 2 {
			x.Objects[i].Kind = api.KindUntyped
			x.Objects[i].Mark = 4
		}
	}
	finds(t, "another kind", x, finding(2, 1, 0), finding(2, 2, 1), finding(2, 2, 7), finding(2, 8, 2), finding(2, 9, 7))
}

func TestP33_1Tree(t *testing.T) {
	n := len(boot(t).Tree)
	for i := range n {
		v := boot(t)
		gone := v.Tree[i].Slot
		v.Tree = slices.Delete(v.Tree, i, i+1)
		if got := audit.Check(v); !slices.Contains(got, finding(3, gone.Node, gone.Index)) {
			t.Errorf("without %v: %+v", gone, got)
		}
		v = boot(t)
		v.Tree = append(v.Tree, api.Node{Slot: gone})
		finds(t, "twice", v, finding(3, gone.Node, gone.Index))
		v = boot(t)
		v.Tree[i].Depth = -1
		want := []api.Finding{finding(3, gone.Node, gone.Index)}
		if i+1 < n && v.Tree[i+1].Depth > 0 {
			want = append(want, finding(3, v.Tree[i+1].Slot.Node, v.Tree[i+1].Slot.Index))
			slices.SortFunc(want, func(a, b api.Finding) int { return (a.A-b.A)*100 + a.B - b.B })
		}
		finds(t, "a negative depth", v, want...)
		v = boot(t)
		v.Tree[i].Depth = 3
		finds(t, "too deep", v, finding(3, gone.Node, gone.Index))
	}
	v := boot(t)
	last := v.Tree[n-1].Slot
	v.Tree = v.Tree[:n-1]
	finds(t, "without the last one", v, finding(3, last.Node, last.Index))
	v = boot(t)
	v.Tree = append(v.Tree, api.Node{Slot: api.Slot{Node: 99, Index: 1}}, api.Node{Slot: api.Slot{Node: -5}, Depth: 1})
	finds(t, "slots that contain nothing", v, finding(3, -5, 0), finding(3, 99, 1))
}

func TestP33_1Depths(t *testing.T) {
	slots := make([]api.Slot, 4)
	var v api.View
	for i := range slots {
		slots[i] = api.Slot{Node: 10 + i}
		v.Caps = append(v.Caps, api.Held{Slot: slots[i], Cap: api.Cap{Kind: api.KindControl}})
	}
	check := func(depths [4]int, bad ...int) {
		t.Helper()
		v.Tree = nil
		for i, d := range depths {
			v.Tree = append(v.Tree, api.Node{Slot: slots[i], Depth: d})
		}
		var want []api.Finding
		for _, i := range bad {
			want = append(want, finding(3, 10+i, 0))
		}
		finds(t, "depths", v, want...)
	}
	check([4]int{0, 1, 2, 3})
	check([4]int{0, 1, 2, 0})
	check([4]int{0, 0, 0, 1})
	check([4]int{1, 2, 0, 1}, 0)
	check([4]int{0, 2, 2, 3}, 1)
	check([4]int{0, 2, 4, 1}, 1, 2)
	check([4]int{0, -1, 0, 1}, 1)
	check([4]int{0, -1, 1, 1}, 1, 2)
	check([4]int{0, 1 << 40, 5, -1 << 40}, 1, 3)
	check([4]int{-1, 0, 0, 0}, 0)
}

func TestP33_1Threads(t *testing.T) {
	v := boot(t)
	v.Threads = v.Threads[1:]
	finds(t, "no record", v, finding(4, 1, 0))
	v.Queue = v.Queue[1:]
	finds(t, "no record, and not in the queue", v, finding(4, 1, 0))
	v = boot(t)
	v.Threads = append(v.Threads, api.Thread{ID: 99})
	finds(t, "no object", v, finding(4, 99, 0))
	v.Threads[2].ID = 2
	finds(t, "a record for a node", v, finding(4, 2, 0))
	v = boot(t)
	v.Queue = v.Queue[:1]
	finds(t, "not in the queue", v, finding(4, 8, 0))
	v = boot(t)
	v.Queue = append(v.Queue, 1)
	finds(t, "twice in the queue", v, finding(4, 1, 0))
	v = boot(t)
	v.Queue = append(v.Queue, 77, 0)
	finds(t, "no thread in the queue", v, finding(4, 0, 0), finding(4, 77, 0))
	for _, state := range []int{0, 2, 3, 4, -1, 9} {
		v = boot(t)
		v.Threads[1].State = state
		finds(t, "not Ready in the queue", v, finding(4, 8, 0))
		v.Queue = v.Queue[:1]
		finds(t, "not Ready, not in the queue", v)
	}
}

func TestP33_1Pools(t *testing.T) {
	for p := range 8 {
		for _, obj := range []int{1, 6, 99, -1} {
			v := boot(t)
			v.Pools[p].Obj = obj
			finds(t, "no pool", v, finding(5, p, 0))
		}
		for i := range 4 {
			for _, root := range []int{1, 7, 99, -1} {
				v := boot(t)
				v.Pools[p].Roots[i] = root
				finds(t, "no root", v, finding(5, p, 0))
			}
			v := boot(t)
			v.Pools[p].Roots[i] = 13
			finds(t, "a root", v)
		}
		v := boot(t)
		v.Pools[p] = api.Pool{Dead: true}
		finds(t, "a dead pool", v)
	}
}

func TestP33_1Marks(t *testing.T) {
	check := func(what string, list []api.Object, want ...api.Finding) {
		t.Helper()
		finds(t, what, api.View{Objects: list}, want...)
		slices.Reverse(list)
		finds(t, what+", the other way round", api.View{Objects: list}, want...)
	}
	u := func(id, first, frames, mark int) api.Object {
		return object(id, api.KindUntyped, first, frames, mark)
	}
	check("before the mark", []api.Object{u(3, 4, 8, 2), object(5, api.KindFrame, 5, 1, 0)})
	check("after the mark", []api.Object{u(3, 4, 8, 2), object(7, api.KindFrame, 6, 1, 0)}, finding(6, 3, 7))
	check("across the mark", []api.Object{u(3, 4, 8, 2), object(6, api.KindNode, 5, 2, 0)}, finding(6, 3, 6))
	check("outside", []api.Object{u(3, 4, 8, 2), object(13, api.KindFrame, 12, 1, 0)})
	check("the same frames", []api.Object{u(3, 4, 8, 8), u(67, 4, 8, 0)})
	check("the same frames, no mark", []api.Object{u(3, 4, 8, 0), u(67, 4, 8, 0)}, finding(6, 3, 67))
	check("the same frames, no untyped", []api.Object{u(67, 4, 1, 0), object(3, api.KindFrame, 4, 1, 0)}, finding(6, 67, 3))
	check("a smaller untyped", []api.Object{u(67, 4, 8, 0), u(3, 4, 7, 7)}, finding(6, 67, 3))
	check("a negative mark", []api.Object{u(3, 4, 8, -5), object(5, api.KindFrame, 4, 1, 0)}, finding(6, 3, 5))
	check("a great mark", []api.Object{u(3, 4, 8, 1<<40), object(5, api.KindFrame, 11, 1, 0)})
	check("nested", []api.Object{u(1, 0, 10, 4), u(65, 0, 4, 2), object(3, api.KindFrame, 2, 1, 0), object(6, api.KindFrame, 5, 1, 0)}, finding(6, 1, 6), finding(6, 65, 3))
}

func TestP33_1OrderOnce(t *testing.T) {
	v := api.View{
		Objects: []api.Object{object(9, api.KindThread, 0, 1, 0), object(4, api.KindThread, 0, 1, 0), object(4, api.KindThread, 0, 1, 0)},
		Caps:    []api.Held{{Slot: api.Slot{Node: 5, Index: 2}, Cap: api.Cap{Kind: 99}}, {Slot: api.Slot{Node: 5, Index: 1}, Cap: api.Cap{Kind: 99}}, {Slot: api.Slot{Node: 5, Index: 2}, Cap: api.Cap{Kind: 98}}},
		Queue:   []int{4, 4, 9},
	}
	v.Pools[3].Obj = 1
	finds(t, "many", v, finding(1, 4, 9), finding(2, 5, 1), finding(2, 5, 2), finding(3, 5, 1), finding(3, 5, 2), finding(4, 4, 0), finding(4, 9, 0), finding(5, 3, 0))
	w := boot(t)
	before := boot(t)
	audit.Check(w)
	if !equal(w, before) {
		t.Error("the view was changed")
	}
}

// walked is a world in which pages 0 and 1 of space 1 are mapped, and what its
// memory holds.
func walked(t *testing.T) (*world.World, [][]uint64) {
	t.Helper()
	w := start(t)
	w.Do(api.Event{Kind: api.EvPick, Thread: 1})
	for _, args := range [][]uint64{{api.OpRetype, 3, api.KindTable, 0, 1, 8, 2}, {api.OpRetype, 3, api.KindFrame, 0, 1, 10, 2}, {api.OpMapTable, 8, 4, 0}, {api.OpMapTable, 9, 4, 0}, {api.OpMapFrame, 10, 4, 0, 3}, {api.OpMapFrame, 11, 4, 64, 1}} {
		e := api.Event{Kind: api.EvCall, Call: api.Call{Op: args[0]}}
		copy(e.Call.Args[:], args[1:])
		if s := w.Do(e); s.Code != api.OK || s.Notes[0].Code != api.OK {
			t.Fatalf("%v: %+v", args, s)
		}
	}
	w.Do(api.Event{Kind: api.EvPrefetch, Page: 0})
	w.Do(api.Event{Kind: api.EvPrefetch, Page: 1})
	var words [][]uint64
	for f := range config.Frames {
		words = append(words, w.Words(f))
	}
	return w, words
}

func stale(t *testing.T, what string, v api.View, words [][]uint64, cached []api.Trans, want ...int) {
	t.Helper()
	if got := audit.Stale(v, words, cached); !slices.Equal(got, want) {
		t.Errorf("%s: %v; want %v", what, got, want)
	}
}

func TestP33_2Stale(t *testing.T) {
	w, words := walked(t)
	v, cached := w.View(), w.Cached(0)
	if len(cached) != 2 || cached[0].Page != 0 || cached[1].Page != 1 {
		t.Fatalf("cached: %+v", cached)
	}
	finds(t, "the world", v)
	stale(t, "what was cached", v, words, cached)
	stale(t, "nothing", v, words, nil)
	for i := range 12 {
		x := cached[0]
		switch i {
		case 0:
			x.Space = 0
		case 1:
			x.Space = 2
		case 2:
			x.Space = 4
		case 3:
			x.Space = -1
		case 4:
			x.Space = 32
		case 5:
			x.Page = 2
		case 6:
			x.Page = -1
		case 7:
			x.Page = 512
		case 8:
			x.Frame++
		case 9:
			x.Read = false
		case 10:
			x.Write = false
		case 11:
			x.Space = math.MinInt
		}
		stale(t, "another translation", v, words, []api.Trans{x, cached[0], x, cached[1]}, 0, 2)
	}
	more := cached[1]
	more.Write = true
	stale(t, "more rights", v, words, []api.Trans{more}, 0)
}

func TestP33_2OtherViews(t *testing.T) {
	w, words := walked(t)
	cached := w.Cached(0)
	v := w.View()
	v.Pools[0].Roots[1] = 0
	stale(t, "no root", v, words, cached, 0, 1)
	v = w.View()
	v.Objects = slices.DeleteFunc(v.Objects, func(o api.Object) bool { return o.ID == 6 })
	stale(t, "no object", v, words, cached, 0, 1)
	for i := range v.Objects {
		if v.Objects[i].ID == 13 {
			v.Objects[i].ID = 6
		}
	}
	stale(t, "another root", v, words, cached, 0, 1)
	for _, first := range []int{-1, 40, 64, math.MinInt, math.MaxInt} {
		v = w.View()
		for i := range v.Objects {
			if v.Objects[i].ID == 6 {
				v.Objects[i].First = first
			}
		}
		stale(t, "a root outside memory", v, words, cached, 0, 1)
	}
	// The number of another place.
	v = w.View()
	v.Pools[7].Roots[3], v.Pools[0].Roots[1] = 6, 0
	cached[0].Space = 31
	stale(t, "number 31", v, words, cached, 1)
}

func TestP33_2OtherWords(t *testing.T) {
	w, words := walked(t)
	v, cached := w.View(), w.Cached(0)
	stale(t, "no frames", v, nil, cached, 0, 1)
	many := make([][]uint64, 65)
	for i := range many {
		many[i] = make([]uint64, 8)
	}
	copy(many, words)
	stale(t, "too many frames", v, many, cached, 0, 1)
	stale(t, "more frames", v, many[:64], cached)
	stale(t, "fewer frames", v, words[:18], cached, 1)
	for _, n := range []int{0, 7, 9} {
		some := slices.Clone(words)
		some[39] = make([]uint64, n)
		stale(t, "a frame of another length", v, some, cached, 0, 1)
	}
	some := slices.Clone(words)
	some[16] = slices.Clone(words[16])
	some[16][0] = 0
	stale(t, "an entry that is gone", v, some, cached, 0)
	some[16][0] = words[16][1]
	stale(t, "another entry", v, some, cached, 0)
	some[16][0] = 0x103
	stale(t, "an entry of no form", v, some, cached, 0)
	some[15] = make([]uint64, 8)
	stale(t, "a table that is gone", v, some, cached, 0, 1)
}

func TestT4WhatAWorldCaches(t *testing.T) {
	w, _ := walked(t)
	words := func() [][]uint64 {
		var all [][]uint64
		for f := range config.Frames {
			all = append(all, w.Words(f))
		}
		return all
	}
	for _, c := range []api.Call{{Op: api.OpDelete, Args: [6]uint64{10}}, {Op: api.OpUnmapTable, Args: [6]uint64{9}}, {Op: api.OpRevoke, Args: [6]uint64{3, 64}}, {Op: api.OpDelete, Args: [6]uint64{6}}} {
		w.Do(api.Event{Kind: api.EvPrefetch, Page: 0})
		w.Do(api.Event{Kind: api.EvPrefetch, Page: 1})
		if s := w.Do(api.Event{Kind: api.EvCall, Call: c}); s.Code != api.OK || s.Notes[0].Code != api.OK {
			t.Fatalf("%+v: %+v", c, s)
		}
		w.Do(api.Event{Kind: api.EvPrefetch, Page: 0})
		finds(t, "after a call", w.View())
		stale(t, "after a call", w.View(), words(), w.Cached(0))
	}
	if len(w.Cached(0)) != 0 {
		t.Errorf("cached: %+v", w.Cached(0))
	}
}
