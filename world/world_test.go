package world_test

import (
	"math"
	"slices"
	"testing"

	"seisin/api"
	"seisin/boot"
	"seisin/world"
)

func start(t *testing.T, c api.Config) *world.World {
	t.Helper()
	w, code := world.New(c)
	if w == nil || code != api.OK {
		t.Fatalf("New(%+v): %d", c, code)
	}
	return w
}

func pick(core, id int) api.Event { return api.Event{Kind: api.EvPick, Core: core, Thread: id} }

func load(core int, va uint64) api.Event { return api.Event{Kind: api.EvLoad, Core: core, Va: va} }

func store(core int, va, v uint64) api.Event {
	return api.Event{Kind: api.EvStore, Core: core, Va: va, Value: v}
}

func call(core int, op uint64, args ...uint64) api.Event {
	e := api.Event{Kind: api.EvCall, Core: core, Call: api.Call{Op: op}}
	copy(e.Call.Args[:], args)
	return e
}

func plain(id int) api.Note { return api.Note{Thread: id} }

func does(t *testing.T, w *world.World, e api.Event, want ...api.Note) {
	t.Helper()
	if s := w.Do(e); s.Code != api.OK || !slices.Equal(s.Notes, want) {
		t.Errorf("Do(%+v) = %+v; want %+v", e, s, want)
	}
}

func fault(id, kind int, va uint64, write bool) api.Note {
	return api.Note{Thread: id, Code: api.ErrFault, Fault: api.Fault{Kind: kind, Va: va, Write: write}}
}

func code(id int, e api.Errno) api.Note { return api.Note{Thread: id, Code: e} }

func TestP31_1New(t *testing.T) {
	for _, c := range []api.Config{{}, {Frames: 10, Cores: 1, Threads: 1}, {Frames: 65, Cores: 1, Threads: 1}, {Frames: 40, Cores: 4, Threads: 1}, {Frames: 40, Cores: 1, Threads: 4}, {Frames: -1, Cores: -1, Threads: -1, Shared: true}} {
		if w, code := world.New(c); w != nil || code != api.ErrRange {
			t.Errorf("New(%+v): %d", c, code)
		}
		if steps, code := world.Run(c, []api.Event{pick(0, 1)}); len(steps) != 0 || code != api.ErrRange {
			t.Errorf("Run(%+v): %v, %d", c, steps, code)
		}
	}
	c := api.Config{Frames: 40, Cores: 2, Threads: 3, Shared: true}
	w := start(t, c)
	k, threads, _ := boot.New(c)
	if !slices.Equal(w.Threads(), threads) || !equal(w.View(), k.Realm().View()) || len(w.Steps()) != 0 {
		t.Errorf("New(%+v): %v", c, w.Threads())
	}
	w.Threads()[0] = 9
	if w.Threads()[0] != 1 {
		t.Error("Threads shares memory with the world")
	}
}

func TestP31_1Example(t *testing.T) {
	steps, e := world.Run(api.Config{Frames: 16, Cores: 1, Threads: 1}, []api.Event{pick(0, 1), load(0, 8)})
	want := []api.Step{{}, {Notes: []api.Note{fault(1, api.FaultMap, 8, false)}}}
	if e != api.OK || !equal(steps, want) {
		t.Errorf("Run = %+v, %d; want %+v", steps, e, want)
	}
	if steps, e := world.Run(api.Config{Frames: 16, Cores: 1, Threads: 1}, nil); len(steps) != 0 || e != api.OK {
		t.Errorf("Run of nothing = %+v, %d", steps, e)
	}
}

func TestP31_1Steps(t *testing.T) {
	w := start(t, api.Config{Frames: 40, Cores: 2, Threads: 2, Shared: true})
	var want []api.Step
	var seen [2][]api.Note
	g := gen{seed: 4}
	for range 300 {
		s := w.Do(g.event(w))
		notes := slices.Clone(s.Notes)
		for _, n := range notes {
			if n.Thread == 1 {
				seen[0] = append(seen[0], n)
			}
			if n.Thread == 8 {
				seen[1] = append(seen[1], n)
			}
		}
		want = append(want, api.Step{Code: s.Code, Notes: notes})
		for i := range s.Notes {
			s.Notes[i].Thread = -1
		}
	}
	same := func() bool {
		got := w.Steps()
		return slices.EqualFunc(got, want, func(a, b api.Step) bool { return a.Code == b.Code && slices.Equal(a.Notes, b.Notes) })
	}
	if !same() {
		t.Fatal("Steps are not what Do returned")
	}
	if !slices.Equal(w.Seen(1), seen[0]) || !slices.Equal(w.Seen(8), seen[1]) || len(seen[0]) == 0 || len(seen[1]) == 0 {
		t.Error("Seen is not what the threads were told")
	}
	for _, id := range []int{0, 3, -1, math.MinInt, math.MaxInt} {
		if len(w.Seen(id)) != 0 {
			t.Errorf("Seen(%d) = %+v", id, w.Seen(id))
		}
	}
	for _, s := range w.Steps() {
		for i := range s.Notes {
			s.Notes[i].Thread = -1
		}
	}
	w.Seen(1)[0].Thread = -1
	if !same() || !slices.Equal(w.Seen(1), seen[0]) {
		t.Error("Steps or Seen share memory with the world")
	}
}

func TestP31_1WordsCachedRegs(t *testing.T) {
	w := start(t, api.Config{Frames: 40, Cores: 2, Threads: 2, Shared: true})
	mapped(t, w)
	does(t, w, store(0, 8, 7), plain(1))
	if got := w.Words(18); !slices.Equal(got, make([]uint64, 8)) {
		t.Errorf("Words(18) = %v", got)
	}
	frame := 17
	if got := w.Words(frame); len(got) != 8 || got[1] != 7 {
		t.Errorf("Words(%d) = %v", frame, got)
	}
	w.Words(frame)[1] = 9
	does(t, w, load(0, 8), api.Note{Thread: 1, Value: 7})
	for _, f := range []int{-1, 40, 64, math.MinInt, math.MaxInt} {
		if len(w.Words(f)) != 0 {
			t.Errorf("Words(%d) = %v", f, w.Words(f))
		}
	}
	if got := w.Cached(0); !slices.Equal(got, []api.Trans{{Space: 1, Page: 0, Frame: frame, Read: true, Write: true}}) {
		t.Errorf("Cached(0) = %+v", got)
	}
	if len(w.Cached(1))+len(w.Cached(2))+len(w.Cached(-1)) != 0 {
		t.Error("Cached of other cores")
	}
	for core, want := range map[int][2]int{0: {5, 1}, 1: {-1, 0}, 2: {0, 0}, -1: {0, 0}, math.MaxInt: {0, 0}} {
		if root, space := w.Regs(core); root != want[0] || space != want[1] {
			t.Errorf("Regs(%d) = %d, %d; want %v", core, root, space, want)
		}
	}
	if got := w.Do(api.Event{Kind: 9}); got.Code != api.ErrArg || len(got.Notes) != 0 {
		t.Errorf("Do of no event: %+v", got)
	}
}

func TestP31_1NilWorld(t *testing.T) {
	var w *world.World
	if !equal(w.Do(pick(0, 1)), api.Step{}) || len(w.Threads())+len(w.Steps())+len(w.Seen(1)) != 0 || !equal(w.View(), api.View{}) || len(w.Words(0))+len(w.Cached(0)) != 0 {
		t.Error("a nil world has something")
	}
	if a, b := w.Regs(0); a != 0 || b != 0 {
		t.Errorf("Regs of a nil world: %d, %d", a, b)
	}
}

// mapped makes the first example of the document in the world of its examples.
func mapped(t *testing.T, w *world.World) {
	t.Helper()
	does(t, w, pick(0, 1))
	does(t, w, call(0, api.OpRetype, 3, api.KindTable, 0, 1, 8, 2), plain(1))
	does(t, w, call(0, api.OpRetype, 3, api.KindFrame, 0, 1, 10, 1), plain(1))
	does(t, w, call(0, api.OpMapTable, 8, 4, 0), plain(1))
	does(t, w, call(0, api.OpMapTable, 9, 4, 0), plain(1))
	does(t, w, call(0, api.OpMapFrame, 10, 4, 0, 3), plain(1))
}

// whole is the world of the document's examples.
func whole(t *testing.T) *world.World {
	t.Helper()
	return start(t, api.Config{Frames: 40, Cores: 2, Threads: 2, Shared: true})
}

func TestP31_2Examples1To3(t *testing.T) {
	w := whole(t)
	mapped(t, w)
	does(t, w, store(0, 0, 7), plain(1))
	does(t, w, load(0, 0), api.Note{Thread: 1, Value: 7})
	does(t, w, call(0, api.OpCopy, 10, 11, api.Read), plain(1))
	does(t, w, call(0, api.OpUnmapFrame, 10), plain(1))
	does(t, w, call(0, api.OpMapFrame, 11, 4, 64, 3), plain(1))
	does(t, w, load(0, 64), api.Note{Thread: 1, Value: 7})
	does(t, w, store(0, 64, 8), fault(1, api.FaultRights, 64, true))
	if v := w.View(); v.Threads[0].State != api.Inactive || v.Cores[0] != 0 {
		t.Error("the thread was not halted")
	}

	w = whole(t)
	mapped(t, w)
	does(t, w, store(0, 0, 7), plain(1))
	does(t, w, call(0, api.OpMapFrame, 10, 4, 0, 1), plain(1))
	does(t, w, store(0, 0, 8), fault(1, api.FaultRights, 0, true))
}

func TestP31_2Example4(t *testing.T) {
	w := whole(t)
	mapped(t, w)
	does(t, w, pick(1, 8))
	does(t, w, api.Event{Kind: api.EvPrefetch})
	does(t, w, call(0, api.OpRevoke, 3, 64), plain(1))
	does(t, w, api.Event{Kind: api.EvPrefetch})
	if len(w.Cached(0)) != 0 {
		t.Errorf("cached: %+v", w.Cached(0))
	}
	does(t, w, load(0, 0), fault(1, api.FaultMap, 0, false))
}

func TestP31_2Example5(t *testing.T) {
	// T6, both ways: the pager waits before, or receives later.
	for _, before := range []bool{false, true} {
		w := whole(t)
		does(t, w, pick(0, 1))
		does(t, w, pick(1, 8))
		told := api.Note{Thread: 1, Msg: [4]uint64{4, 128, 0, 0}, Badge: 102}
		if before {
			does(t, w, call(0, api.OpRecv, 7, api.NoAddr))
			does(t, w, load(1, 128), fault(8, api.FaultMap, 128, false), told)
			does(t, w, pick(0, 1))
		} else {
			does(t, w, load(1, 128), fault(8, api.FaultMap, 128, false))
			does(t, w, call(0, api.OpRecv, 7, api.NoAddr), told)
		}
		if v := w.View(); v.Threads[1].State != api.Replying || v.Cores[1] != 0 {
			t.Errorf("the thread that faulted: %+v", v.Threads[1])
		}
		if s := w.Do(pick(1, 8)); s.Code != api.ErrBusy {
			t.Errorf("a pick of a blocked thread: %d", s.Code)
		}
		does(t, w, call(0, api.OpReply, 1, 2, 3, 4), plain(1))
		does(t, w, pick(1, 8))
		does(t, w, call(1, api.OpYield), fault(8, api.FaultMap, 128, false))
	}
}

func TestP31_2PagerMaps(t *testing.T) {
	w := whole(t)
	does(t, w, pick(0, 1))
	does(t, w, pick(1, 8))
	// Thread 8 gives its root to the pager.
	does(t, w, call(1, api.OpSend, 7, 4, 0, 0, 0, 0))
	does(t, w, call(0, api.OpRecv, 7, 12), api.Note{Thread: 1, Badge: 2, Got: true}, plain(8))
	does(t, w, pick(1, 8))
	does(t, w, store(1, 136, 9), fault(8, api.FaultMap, 136, true))
	does(t, w, call(0, api.OpRecv, 7, api.NoAddr), api.Note{Thread: 1, Msg: [4]uint64{4, 136, 1, 0}, Badge: 102})
	does(t, w, call(0, api.OpRetype, 3, api.KindTable, 0, 1, 8, 2), plain(1))
	does(t, w, call(0, api.OpRetype, 3, api.KindFrame, 0, 1, 10, 1), plain(1))
	does(t, w, call(0, api.OpMapTable, 8, 12, 128), plain(1))
	does(t, w, call(0, api.OpMapTable, 9, 12, 128), plain(1))
	does(t, w, call(0, api.OpMapFrame, 10, 12, 128, 3), plain(1))
	does(t, w, call(0, api.OpReply), plain(1))
	does(t, w, pick(1, 8))
	does(t, w, load(1, 0), plain(8))
	does(t, w, load(1, 136), api.Note{Thread: 8, Value: 9})
}

func TestP31_2Example6(t *testing.T) {
	w := whole(t)
	does(t, w, pick(0, 1))
	does(t, w, pick(1, 8))
	does(t, w, call(0, api.OpRetype, 3, api.KindFrame, 0, 1, 10, 1), plain(1))
	does(t, w, call(1, api.OpRecv, 7, 9))
	does(t, w, call(0, api.OpSend, 7, 10, 1, 2, 3, 4), api.Note{Thread: 8, Msg: [4]uint64{1, 2, 3, 4}, Got: true}, plain(1))
	v := w.View()
	i := slices.IndexFunc(v.Tree, func(n api.Node) bool { return n.Slot == api.Slot{Node: 2, Index: 10} })
	if v.Tree[i+1] != (api.Node{Slot: api.Slot{Node: 9, Index: 9}, Depth: v.Tree[i].Depth + 1}) {
		t.Errorf("the copy is not below the original: %v", v.Tree)
	}
	does(t, w, pick(1, 8))
	does(t, w, call(1, api.OpRecv, 7, 9))
	does(t, w, call(0, api.OpSend, 7, 10, 1, 2, 3, 4), api.Note{Thread: 8, Msg: [4]uint64{1, 2, 3, 4}}, plain(1))
}

func TestP31_2Example7(t *testing.T) {
	w := whole(t)
	mapped(t, w)
	does(t, w, call(0, api.OpDelete, 4), plain(1))
	does(t, w, call(0, api.OpUnbind, 2, api.SlotSpace), plain(1))
	if root, space := w.Regs(0); root != -1 || space != 0 {
		t.Errorf("the space is still there: %d, %d", root, space)
	}
	does(t, w, call(0, api.OpRetype, 3, api.KindRoot, 0, 1, 4, 1), plain(1))
	does(t, w, call(0, api.OpAssign, 6, 4), plain(1))
	v := w.View()
	if v.Pools[0].Roots[1] == 6 || v.Pools[0].Roots[1] == 0 || v.Pools[0].Serials[1] != 33 {
		t.Errorf("the pool: %+v", v.Pools[0])
	}
	does(t, w, call(0, api.OpBind, 2, api.SlotSpace, 4), plain(1))
	does(t, w, load(0, 0), fault(1, api.FaultMap, 0, false))
}

func TestP31_2Examples8And10(t *testing.T) {
	w := whole(t)
	does(t, w, pick(0, 1))
	does(t, w, call(0, api.OpRetype, 3, api.KindFrame, 0, 1, 8, 3), plain(1))
	does(t, w, call(0, api.OpRevoke, 3, 1), code(1, api.ErrBudget))
	if v := w.View(); slices.ContainsFunc(v.Objects, func(o api.Object) bool { return o.First == 17 && o.Kind == api.KindFrame }) && slices.ContainsFunc(v.Objects, func(o api.Object) bool { return o.First == 18 && o.Kind == api.KindFrame }) && slices.ContainsFunc(v.Objects, func(o api.Object) bool { return o.First == 15 && o.Kind == api.KindFrame }) {
		t.Error("nothing was deleted")
	}
	does(t, w, call(0, api.OpRevoke, 3, 1), code(1, api.ErrBudget))
	does(t, w, call(0, api.OpRevoke, 3, 1), plain(1))
	before := w.View()
	does(t, w, call(0, api.OpRetype, 3, api.KindNode, 4, 1, 8, 4), code(1, api.ErrNoMem))
	if !equal(w.View(), before) {
		t.Error("an order that failed changed something")
	}
}
