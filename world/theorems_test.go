package world_test

import (
	"fmt"
	"slices"
	"testing"

	"seisin/api"
	"seisin/audit"
	"seisin/part"
	"seisin/phys"
	"seisin/walk"
	"seisin/world"
)

// equal compares two values as they are printed, so that a list that is nil
// and one that is empty are the same.
func equal(a, b any) bool { return fmt.Sprintf("%+v", a) == fmt.Sprintf("%+v", b) }

const scripts = 200

var configs = []api.Config{{Frames: 40, Cores: 2, Threads: 2, Shared: true}, {Frames: 64, Cores: 3, Threads: 3, Shared: true}, {Frames: 22, Cores: 1, Threads: 2}, {Frames: 13, Cores: 2, Threads: 1, Shared: true}}

// state is all of a world that orders may change.
type state struct {
	view  api.View
	words [][]uint64
}

func look(w *world.World, frames int) state {
	s := state{view: w.View()}
	for f := range frames {
		s.words = append(s.words, w.Words(f))
	}
	return s
}

func (s state) thread(id int) api.Thread {
	for _, t := range s.view.Threads {
		if t.ID == id {
			return t
		}
	}
	return api.Thread{}
}

func (s state) cap(x api.Slot) api.Cap {
	for _, h := range s.view.Caps {
		if h.Slot == x {
			return h.Cap
		}
	}
	return api.Cap{}
}

func (s state) object(id int) api.Object {
	for _, o := range s.view.Objects {
		if o.ID == id {
			return o
		}
	}
	return api.Object{First: -1}
}

// root returns the root with that serial.
func (s state) root(serial int) (api.Object, bool) {
	for _, p := range s.view.Pools {
		for i, r := range p.Roots {
			if r != 0 && p.Serials[i] == serial {
				return s.object(r), true
			}
		}
	}
	return api.Object{}, false
}

func (s state) memory(t *testing.T) *phys.Mem {
	t.Helper()
	m, code := phys.New(len(s.words))
	if code != api.OK {
		t.Fatal(code)
	}
	for f, words := range s.words {
		for i, v := range words {
			m.Store(uint64(f*64+i*8), v)
		}
	}
	return m
}

// TestTheorems2To4 plays scripts and looks at every step.
func TestP31_2Theorems2To4(t *testing.T) {
	played := map[string]int{}
	for n := range scripts {
		c := configs[n%len(configs)]
		w := start(t, c)
		g := settled(w, n)
		before := look(w, c.Frames)
		for i := range 500 {
			if !ready(w) {
				break
			}
			e := g.event(w)
			s := w.Do(e)
			after := look(w, c.Frames)
			errorsChangeNothing(t, e, s, before, after, played)
			accessesAreJustified(t, e, s, before, after, played)
			deletedIsGone(t, e, s, before, after, played)
			cachesAgree(t, w, after)
			if found := audit.Check(after.view); len(found) > 0 {
				t.Errorf("the view is not consistent: %+v", found)
			}
			if t.Failed() {
				t.Fatalf("script %d, event %d: %+v: %+v", n, i, e, s)
			}
			before = after
		}
	}
	t.Logf("played: %v", played)
	for _, what := range []string{"error", "refused", "load", "store", "fault", "delete", "revoke", "budget"} {
		if played[what] < 20 {
			t.Errorf("%d times %s: the scripts try too little", played[what], what)
		}
	}
}

// errorsChangeNothing is T2.
func errorsChangeNothing(t *testing.T, e api.Event, s api.Step, before, after state, played map[string]int) {
	t.Helper()
	if s.Code != api.OK {
		played["refused"]++
		if !equal(before, after) {
			t.Error("T2: an event that was refused changed something")
		}
		return
	}
	if e.Kind != api.EvCall || before.thread(before.view.Cores[e.Core]).Retry.Has {
		return
	}
	if len(s.Notes) != 1 || s.Notes[0].Code == api.OK {
		return
	}
	if e.Call.Op == api.OpRevoke && s.Notes[0].Code == api.ErrBudget {
		played["budget"]++
		return
	}
	played["error"]++
	if !equal(before, after) {
		t.Error("T2: an order that returned an error changed something")
	}
}

// accessesAreJustified is T3.
func accessesAreJustified(t *testing.T, e api.Event, s api.Step, before, after state, played map[string]int) {
	t.Helper()
	if s.Code != api.OK || e.Kind < api.EvCall || e.Kind > api.EvStore {
		return
	}
	id := before.view.Cores[e.Core]
	x := api.Access{Write: e.Kind == api.EvStore, Va: e.Va, Value: e.Value}
	if retry := before.thread(id).Retry; retry.Has {
		x = retry
	} else if e.Kind == api.EvCall {
		return
	}
	if s.Notes[0].Code != api.OK {
		played["fault"]++
		if s.Notes[0].Code != api.ErrFault || !equal(before.words, after.words) {
			t.Errorf("T3: a fault: %+v", s.Notes)
		}
		return
	}
	need, what := api.Read, "load"
	if x.Write {
		need, what = api.Write, "store"
	}
	played[what]++
	root := before.cap(api.Slot{Node: id, Index: api.SlotSpace})
	for _, h := range before.view.Caps {
		space, ok := before.root(h.Cap.Serial)
		if h.Cap.Kind != api.KindFrame || !ok || space.ID != root.Obj || h.Cap.Page != int(x.Va/64) || h.Cap.Rights&need == 0 {
			continue
		}
		f, word := before.object(h.Cap.Obj).First, x.Va%64/8
		if !x.Write && before.words[f][word] != s.Notes[0].Value {
			continue
		}
		if x.Write {
			before.words[f] = slices.Clone(before.words[f])
			before.words[f][word] = x.Value
		}
		if !equal(before.words, after.words) {
			t.Error("T3: an access changed other words")
		}
		return
	}
	t.Errorf("T3: nothing justifies %+v", x)
}

// deletedIsGone is T4.
func deletedIsGone(t *testing.T, e api.Event, s api.Step, before, after state, played map[string]int) {
	t.Helper()
	if s.Code != api.OK || e.Kind != api.EvCall {
		return
	}
	id := before.view.Cores[e.Core]
	nodes := before.cap(api.Slot{Node: id, Index: api.SlotNodes})
	done := len(s.Notes) == 1 && s.Notes[0].Code == api.OK && !before.thread(id).Retry.Has
	slot := api.Slot{Node: nodes.Obj, Index: int(e.Call.Args[0])}
	plain := nodes.Bits == 8 && nodes.Guard == 0 && before.object(nodes.Obj).Size == 4 && e.Call.Args[0] < 16
	switch {
	case done && plain && e.Call.Op == api.OpDelete:
		played["delete"]++
		if after.cap(slot) != (api.Cap{}) {
			t.Error("T4: a deleted capability is still there")
		}
	case done && plain && e.Call.Op == api.OpRevoke:
		played["revoke"]++
		for i, n := range after.view.Tree {
			if n.Slot == slot && i+1 < len(after.view.Tree) && after.view.Tree[i+1].Depth > n.Depth {
				t.Error("T4: something is below a revoked capability")
			}
		}
	}
	if e.Call.Op != api.OpDelete && e.Call.Op != api.OpRevoke && e.Call.Op != api.OpUnbind {
		return
	}
	m := after.memory(t)
	for _, h := range before.view.Caps {
		root, ok := after.root(h.Cap.Serial)
		if h.Cap.Kind != api.KindFrame || after.cap(h.Slot) == h.Cap || !ok {
			continue
		}
		x, code := walk.Walk(m, root.First, h.Cap.Page)
		if code == api.OK && x.Frame == before.object(h.Cap.Obj).First {
			t.Errorf("T4: page %d still leads to the frame of %+v", h.Cap.Page, h.Cap)
		}
	}
}

// cachesAgree checks that what is cached is what a walk finds, from a root
// that has the number.
func cachesAgree(t *testing.T, w *world.World, now state) {
	t.Helper()
	m := now.memory(t)
	for core := range now.view.Cores {
		for _, x := range w.Cached(core) {
			root := now.view.Pools[x.Space/4].Roots[x.Space%4]
			leaf, code := walk.Walk(m, now.object(root).First, x.Page)
			if root == 0 || code != api.OK || leaf.Frame != x.Frame || leaf.Read != x.Read || leaf.Write != x.Write {
				t.Errorf("core %d has %+v; a walk: %+v, %d", core, x, leaf, code)
			}
		}
	}
}

func TestP31_2Theorem1(t *testing.T) {
	for n := range scripts {
		c := configs[n%len(configs)]
		w := start(t, c)
		g := settled(w, 1001+n)
		var full, bare []api.Event
		var told []api.Step
		for range 400 {
			if !ready(w) {
				break
			}
			e := g.event(w)
			s := w.Do(e)
			full = append(full, e)
			if e.Kind != api.EvEvict && e.Kind != api.EvPrefetch {
				bare = append(bare, e)
				told = append(told, s)
			}
		}
		again, code := world.Run(c, full)
		if code != api.OK || !equal(again, w.Steps()) {
			t.Fatalf("T1: script %d does not do the same again", n)
		}
		if steps, code := world.Run(c, bare); code != api.OK || !equal(steps, told) {
			t.Fatalf("T1: script %d depends on what the caches do by themselves", n)
		}
	}
}

// staysApart checks that the groups of threads are isolated, as they were at first.
func staysApart(t *testing.T, w *world.World, groups map[int]int) {
	t.Helper()
	v := w.View()
	var sides [3][]int
	for _, x := range v.Threads {
		sides[groups[x.ID]] = append(sides[groups[x.ID]], x.ID)
	}
	if len(sides[0]) > 0 || !part.Apart(v, sides[1], sides[2]) {
		t.Errorf("T5: %v and %v are not isolated any more", sides[1], sides[2])
	}
}

// TestTheorem5 plays scripts of two groups that share nothing, and again
// without the picks and steps of one of them.
func TestP31_2Theorem5(t *testing.T) {
	steps := 0
	for n := range scripts {
		c := api.Config{Frames: 40 + n%25, Cores: 1 + n%3, Threads: 2 + n%2}
		w := start(t, c)
		groups := map[int]int{}
		for i, id := range w.Threads() {
			groups[id] = 1 + i%2
		}
		g := settled(w, 2002+n)
		parts := [3][]api.Event{}
		for range 600 {
			if !ready(w) {
				break
			}
			e := g.event(w)
			if e.Kind == api.EvPick && e.Thread == 0 {
				continue
			}
			actor := 0
			switch e.Kind {
			case api.EvPick:
				actor = groups[e.Thread]
			case api.EvCall, api.EvLoad, api.EvStore:
				actor = groups[w.View().Cores[e.Core]]
			}
			w.Do(e)
			parts[actor] = append(parts[actor], e)
			for _, x := range w.View().Threads {
				if groups[x.ID] == 0 {
					groups[x.ID] = actor
				}
			}
			staysApart(t, w, groups)
			if t.Failed() {
				t.Fatalf("script %d: %+v", n, e)
			}
		}
		for group := 1; group <= 2; group++ {
			alone := start(t, c)
			for _, e := range parts[group] {
				alone.Do(e)
			}
			for id, of := range groups {
				if of != group {
					continue
				}
				steps += len(w.Seen(id))
				if !slices.Equal(w.Seen(id), alone.Seen(id)) {
					t.Fatalf("T5: script %d: the thread %d is told something else without the other group", n, id)
				}
			}
		}
	}
	t.Logf("compared: %d", steps)
	if steps < 5000 {
		t.Errorf("only %d notes were compared", steps)
	}
}
