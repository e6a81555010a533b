package judge_test

import (
	"fmt"
	"math"
	"slices"
	"testing"

	"seisin/api"
	"seisin/judge"
	"seisin/world"
)

// equal compares two values as they are printed, so that a list that is nil
// and one that is empty are the same.
func equal(a, b any) bool { return fmt.Sprintf("%+v", a) == fmt.Sprintf("%+v", b) }

func at(node, index int) api.Slot { return api.Slot{Node: node, Index: index} }

func frame(node, index, obj, rights, serial, page int) api.Held {
	return api.Held{Slot: at(node, index), Cap: api.Cap{Kind: api.KindFrame, Obj: obj, Rights: rights, Serial: serial, Page: page}}
}

func root(thread, obj int) api.Held {
	return api.Held{Slot: at(thread, api.SlotSpace), Cap: api.Cap{Kind: api.KindRoot, Obj: obj}}
}

// view has the threads 1 to 4, of which 1 has the root 6 (serial 1), 2 the
// root 13 (serial 37), 3 a root without a number, and 4 none.
func view() api.View {
	v := api.View{
		Objects: []api.Object{{ID: 9, Kind: api.KindFrame, First: 8, Frames: 1}, {ID: 6, Kind: api.KindRoot, First: 5, Frames: 1}, {ID: 73, Kind: api.KindNode, First: 40, Frames: 4}},
		Caps: []api.Held{
			root(1, 6), root(2, 13), root(3, 20), {Slot: at(4, api.SlotSpace), Cap: api.Cap{Kind: api.KindPool, Obj: 6}}, {Slot: at(5, api.SlotPager), Cap: api.Cap{Kind: api.KindRoot, Obj: 6}},
			frame(7, 8, 9, 1, 1, 5), frame(7, 9, 9, 3, 1, 5), frame(7, 10, 9, 2, 1, 5), frame(7, 11, 9, 3, 1, 6), frame(7, 12, 9, 3, 37, 5), frame(7, 13, 99, 3, 0, 0),
			{Slot: at(7, 14), Cap: api.Cap{Kind: api.KindEndpoint, Obj: 9, Rights: 7, Serial: 1, Page: 5}}, {Slot: at(7, 15), Cap: api.Cap{Kind: api.KindNode, Obj: 73}},
			frame(6, 0, 9, 4, 1, 5), frame(6, 1, 9, -1, 1, 5), frame(6, 2, 9, -2, 1, 5), frame(6, 3, 9, 1<<40|2, 1, 5), frame(6, 4, 9, 0, 1, 5),
		},
	}
	v.Pools[0].Roots[1], v.Pools[0].Serials[1] = 6, 1
	v.Pools[1].Roots[1], v.Pools[1].Serials[1] = 13, 37
	return v
}

func TestP32_1Space(t *testing.T) {
	v := view()
	space := func(thread, serial int, want bool) {
		t.Helper()
		if s, ok := judge.Space(v, thread); s != serial || ok != want {
			t.Errorf("Space(%d) = %d, %v; want %d, %v", thread, s, ok, serial, want)
		}
	}
	space(1, 1, true)
	space(2, 37, true)
	for _, id := range []int{0, 3, 4, 5, 7, -1, math.MinInt, math.MaxInt} {
		space(id, 0, false)
	}
	// Every place of every pool.
	for p := range 8 {
		for i := range 4 {
			v = view()
			v.Pools[p].Roots[i], v.Pools[p].Serials[i] = 20, 1000+p*4+i
			space(3, 1000+p*4+i, true)
		}
	}
	v = view()
	v.Pools[0].Roots[1] = 0
	space(1, 0, false)
	v = api.View{}
	space(1, 0, false)
}

func TestP32_1Holds(t *testing.T) {
	v := view()
	holds := func(thread, page int, write bool, want ...api.Slot) {
		t.Helper()
		if got := judge.Holds(v, thread, page, write); !slices.Equal(got, want) {
			t.Errorf("Holds(%d, %d, %v) = %v; want %v", thread, page, write, got, want)
		}
	}
	holds(1, 5, false, at(7, 8), at(7, 9), at(6, 1))
	holds(1, 5, true, at(7, 9), at(7, 10), at(6, 1), at(6, 2), at(6, 3))
	holds(1, 6, false, at(7, 11))
	holds(1, 6, true, at(7, 11))
	holds(2, 5, true, at(7, 12))
	for _, page := range []int{0, 4, 7, 512, -1, math.MinInt} {
		holds(1, page, false)
		holds(1, page, true)
	}
	for _, id := range []int{0, 3, 4, 5, 7, -1} {
		holds(id, 5, false)
		holds(id, 0, true)
	}
}

func TestP32_1First(t *testing.T) {
	v := view()
	for s, want := range map[api.Slot]int{at(7, 8): 8, at(1, api.SlotSpace): 5, at(7, 15): 40, at(7, 13): -1, at(3, api.SlotSpace): -1, at(7, 0): -1, at(8, 8): -1, at(math.MinInt, -1): -1} {
		if got := judge.First(v, s); got != want {
			t.Errorf("First(%v) = %d; want %d", s, got, want)
		}
	}
	if judge.First(api.View{}, at(7, 8)) != -1 {
		t.Error("First of an empty view")
	}
}

func TestP32_1Records(t *testing.T) {
	v := view()
	got := judge.Records(v, []api.Slot{at(7, 12), at(7, 13), at(7, 14), at(1, api.SlotSpace), at(7, 8), at(9, 9), at(6, 4)})
	want := []api.Cap{v.Caps[9].Cap, v.Caps[5].Cap, v.Caps[17].Cap}
	if v.Caps[9].Slot != at(7, 12) || !slices.Equal(got, want) {
		t.Errorf("Records = %+v; want %+v", got, want)
	}
	if len(judge.Records(v, nil)) != 0 || len(judge.Records(api.View{}, []api.Slot{at(7, 8)})) != 0 {
		t.Error("Records of nothing")
	}
	v.Caps[5].Cap.Serial = -4
	if got := judge.Records(v, []api.Slot{at(7, 8)}); len(got) != 1 || got[0].Serial != -4 {
		t.Errorf("Records = %+v", got)
	}
}

func TestP32_1KeepsItsView(t *testing.T) {
	v, w := view(), view()
	judge.Space(v, 1)
	judge.Holds(v, 1, 5, true)
	judge.First(v, at(7, 8))
	judge.Records(v, []api.Slot{at(7, 8)})
	if !equal(v, w) {
		t.Error("the view was changed")
	}
}

// TestAccessesOfAWorld is T3 where it is simple: what is mapped with which
// rights, through which capability.
func TestP32_1AccessesOfAWorld(t *testing.T) {
	for rights := 1; rights <= 3; rights++ {
		for _, write := range []bool{false, true} {
			w, code := world.New(api.Config{Frames: 20, Cores: 1, Threads: 1})
			if code != api.OK {
				t.Fatal(code)
			}
			call := func(op uint64, args ...uint64) {
				t.Helper()
				e := api.Event{Kind: api.EvCall, Call: api.Call{Op: op}}
				copy(e.Call.Args[:], args)
				if s := w.Do(e); s.Code != api.OK || len(s.Notes) != 1 || s.Notes[0].Code != api.OK {
					t.Fatalf("%+v: %+v", e, s)
				}
			}
			w.Do(api.Event{Kind: api.EvPick, Thread: 1})
			call(api.OpRetype, 3, api.KindTable, 0, 1, 8, 2)
			call(api.OpRetype, 3, api.KindFrame, 0, 1, 10, 1)
			call(api.OpCopy, 10, 11, uint64(rights))
			call(api.OpMapTable, 8, 4, 192)
			call(api.OpMapTable, 9, 4, 192)
			call(api.OpMapFrame, 11, 4, 192, 3)
			v := w.View()
			held := judge.Holds(v, 1, 3, write)
			e := api.Event{Kind: api.EvLoad, Va: 200}
			if write {
				e.Kind = api.EvStore
			}
			s := w.Do(e)
			if ok := s.Notes[0].Code == api.OK; ok != (len(held) == 1) {
				t.Errorf("rights %d, write %v: %+v, justified by %v", rights, write, s, held)
			}
			if len(held) == 1 && (held[0] != at(2, 11) || judge.First(v, held[0]) != judge.First(v, at(2, 10))) {
				t.Errorf("justified by %v", held)
			}
			if got := judge.Records(v, []api.Slot{at(2, 10), at(2, 11)}); len(got) != 1 || got[0].Page != 3 || got[0].Serial != 1 {
				t.Errorf("records: %+v", got)
			}
		}
	}
}
