package arena_test

import (
	"math"
	"slices"
	"testing"

	"seisin/api"
	"seisin/arena"
)

func some(t *testing.T, frames int) *arena.Arena {
	t.Helper()
	a, code := arena.New(frames)
	if a == nil || code != api.OK {
		t.Fatalf("New(%d): %d", frames, code)
	}
	return a
}

func add(t *testing.T, a *arena.Arena, kind, size, first, id int, want api.Errno) {
	t.Helper()
	if got, code := a.Add(kind, size, first); got != id || code != want {
		t.Errorf("Add(%d, %d, %d) = %d, %d; want %d, %d", kind, size, first, got, code, id, want)
	}
}

func all(t *testing.T, a *arena.Arena, want ...api.Object) {
	t.Helper()
	if got := a.All(); !slices.Equal(got, want) {
		t.Errorf("All = %+v; want %+v", got, want)
	}
}

var far = []int{math.MinInt, -1, 1 << 40, math.MaxInt}

func TestP12_1New(t *testing.T) {
	for _, n := range append([]int{0, 65}, far...) {
		if a, code := arena.New(n); a != nil || code != api.ErrRange {
			t.Errorf("New(%d): %d", n, code)
		}
	}
	for n := 1; n <= 64; n++ {
		a := some(t, n)
		all(t, a)
		if a.Next(n-1) != n || a.Next(n) != 0 {
			t.Errorf("New(%d): Next(%d) = %d", n, n-1, a.Next(n-1))
		}
	}
}

func TestP12_1Example(t *testing.T) {
	a := some(t, 8)
	add(t, a, api.KindUntyped, 8, 0, 1, api.OK)
	add(t, a, api.KindFrame, 0, 2, 3, api.OK)
	add(t, a, api.KindTable, 0, 2, 0, api.ErrBusy)
	if code := a.Drop(3); code != api.OK {
		t.Errorf("Drop(3): %d", code)
	}
	add(t, a, api.KindTable, 0, 2, 67, api.OK)
	if code := a.SetPlace(67, 5, 64, 1); code != api.OK {
		t.Errorf("SetPlace: %d", code)
	}
	add(t, a, api.KindFrame, 0, 0, 65, api.OK)
	all(t, a,
		api.Object{ID: 1, Kind: api.KindUntyped, Size: 8, First: 0, Frames: 8},
		api.Object{ID: 65, Kind: api.KindFrame, First: 0, Frames: 1},
		api.Object{ID: 67, Kind: api.KindTable, First: 2, Frames: 1, Serial: 5, Page: 64, Level: 1})
}

func TestP12_1AddFields(t *testing.T) {
	for _, x := range []struct{ kind, size, frames int }{{api.KindUntyped, 1, 1}, {api.KindUntyped, 40, 40}, {api.KindNode, 1, 1}, {api.KindNode, 2, 1}, {api.KindNode, 3, 2}, {api.KindNode, 4, 4}, {api.KindFrame, 0, 1}, {api.KindTable, 0, 1}, {api.KindRoot, 0, 1}, {api.KindPool, 0, 1}, {api.KindEndpoint, 0, 1}, {api.KindThread, 0, 1}} {
		a := some(t, 50)
		add(t, a, x.kind, x.size, 7, 8, api.OK)
		want := api.Object{ID: 8, Kind: x.kind, Size: x.size, First: 7, Frames: x.frames}
		all(t, a, want)
		if got, ok := a.Get(8); got != want || !ok {
			t.Errorf("Get(8) = %+v, %v", got, ok)
		}
		// It ends with the memory, or would reach beyond.
		b := some(t, 7+x.frames)
		add(t, b, x.kind, x.size, 8, 0, api.ErrRange)
		add(t, b, x.kind, x.size, 7, 8, api.OK)
	}
}

func TestP12_1AddErrors(t *testing.T) {
	a := some(t, 8)
	add(t, a, api.KindFrame, 0, 3, 4, api.OK)
	for _, first := range append([]int{3, 8}, far...) {
		add(t, a, api.KindFrame, 1, first, 0, api.ErrArg)
		add(t, a, api.KindControl, 0, first, 0, api.ErrArg)
		add(t, a, api.KindNone, 0, first, 0, api.ErrArg)
		add(t, a, api.KindUntyped, 0, first, 0, api.ErrArg)
		add(t, a, api.KindUntyped, 65, first, 0, api.ErrArg)
		add(t, a, -1, 0, first, 0, api.ErrArg)
		add(t, a, 10, 0, first, 0, api.ErrArg)
	}
	for _, first := range append([]int{8, 9}, far...) {
		add(t, a, api.KindFrame, 0, first, 0, api.ErrRange)
	}
	add(t, a, api.KindUntyped, 9, 0, 0, api.ErrRange)
	add(t, a, api.KindUntyped, 8, 1, 0, api.ErrRange)
	add(t, a, api.KindNode, 4, 5, 0, api.ErrRange)
	all(t, a, api.Object{ID: 4, Kind: api.KindFrame, First: 3, Frames: 1})
	if a.Next(5) != 6 || a.Next(3) != 68 || a.Next(0) != 1 {
		t.Error("a failed Add counts")
	}
}

func TestP12_1Meeting(t *testing.T) {
	type obj struct{ kind, size, frames int }
	kinds := []obj{{api.KindUntyped, 1, 1}, {api.KindUntyped, 3, 3}, {api.KindUntyped, 5, 5}, {api.KindNode, 3, 2}, {api.KindNode, 4, 4}, {api.KindFrame, 0, 1}, {api.KindThread, 0, 1}}
	for _, x := range kinds {
		for _, y := range kinds {
			for first := range 11 {
				a := some(t, 16)
				add(t, a, x.kind, x.size, 5, 6, api.OK)
				meet := first < 5+x.frames && 5 < first+y.frames
				inside := x.kind == api.KindUntyped && first >= 5 && first+y.frames <= 5+x.frames
				around := y.kind == api.KindUntyped && first <= 5 && first+y.frames >= 5+x.frames
				if meet && !inside && !around {
					add(t, a, y.kind, y.size, first, 0, api.ErrBusy)
					continue
				}
				id := first + 1
				if first == 5 {
					id += 64
				}
				add(t, a, y.kind, y.size, first, id, api.OK)
			}
		}
	}
	// One that is busy among several is enough.
	a := some(t, 16)
	add(t, a, api.KindUntyped, 16, 0, 1, api.OK)
	add(t, a, api.KindUntyped, 8, 0, 65, api.OK)
	add(t, a, api.KindFrame, 0, 7, 8, api.OK)
	add(t, a, api.KindUntyped, 4, 6, 0, api.ErrBusy)
	add(t, a, api.KindUntyped, 1, 7, 72, api.OK)
	add(t, a, api.KindEndpoint, 0, 7, 0, api.ErrBusy)
}

func TestP12_1NumbersRunOut(t *testing.T) {
	a := some(t, 64)
	for n := range 1023 {
		add(t, a, api.KindFrame, 0, 63, 64+64*n, api.OK)
		if code := a.Drop(64 + 64*n); code != api.OK {
			t.Fatalf("Drop(%d): %d", 64+64*n, code)
		}
	}
	if a.Next(63) != 0 {
		t.Errorf("Next(63) = %d", a.Next(63))
	}
	add(t, a, api.KindFrame, 0, 63, 0, api.ErrFull)
	for n := range 1024 {
		add(t, a, api.KindFrame, 0, 62, 63+64*n, api.OK)
		a.Drop(63 + 64*n)
	}
	if a.Next(62) != 0 {
		t.Errorf("Next(62) = %d", a.Next(62))
	}
	add(t, a, api.KindUntyped, 2, 62, 0, api.ErrFull)
	// An object that meets another one is busy first.
	add(t, a, api.KindUntyped, 2, 61, 62, api.OK)
	add(t, a, api.KindNode, 3, 61, 126, api.OK)
	add(t, a, api.KindFrame, 0, 62, 0, api.ErrBusy)
	all(t, a, api.Object{ID: 62, Kind: api.KindUntyped, Size: 2, First: 61, Frames: 2}, api.Object{ID: 126, Kind: api.KindNode, Size: 3, First: 61, Frames: 2})
}

func TestP12_1NextGet(t *testing.T) {
	a := some(t, 5)
	for _, first := range append([]int{5, 6, 64}, far...) {
		if got := a.Next(first); got != 0 {
			t.Errorf("Next(%d) = %d", first, got)
		}
	}
	add(t, a, api.KindPool, 0, 4, 5, api.OK)
	for _, id := range append([]int{0, 4, 6, 69}, far...) {
		if x, ok := a.Get(id); ok || x != (api.Object{}) {
			t.Errorf("Get(%d) = %+v, %v", id, x, ok)
		}
	}
}

func TestP12_2Drop(t *testing.T) {
	a := some(t, 5)
	add(t, a, api.KindPool, 0, 4, 5, api.OK)
	add(t, a, api.KindPool, 0, 2, 3, api.OK)
	for _, id := range append([]int{0, 4, 69}, far...) {
		if code := a.Drop(id); code != api.ErrArg {
			t.Errorf("Drop(%d): %d", id, code)
		}
	}
	if code := a.Drop(5); code != api.OK {
		t.Errorf("Drop(5): %d", code)
	}
	if code := a.Drop(5); code != api.ErrArg {
		t.Errorf("Drop(5) again: %d", code)
	}
	if _, ok := a.Get(5); ok {
		t.Error("Get of a dropped object")
	}
	all(t, a, api.Object{ID: 3, Kind: api.KindPool, First: 2, Frames: 1})
}

func TestP12_2SetMark(t *testing.T) {
	a := some(t, 9)
	add(t, a, api.KindUntyped, 4, 0, 1, api.OK)
	add(t, a, api.KindNode, 4, 5, 6, api.OK)
	mark := func(id, mark int, want api.Errno) {
		t.Helper()
		before, _ := a.Get(id)
		code := a.SetMark(id, mark)
		after, _ := a.Get(id)
		if code != want {
			t.Errorf("SetMark(%d, %d): %d; want %d", id, mark, code, want)
		}
		if want == api.OK {
			before.Mark = mark
		}
		if after != before {
			t.Errorf("SetMark(%d, %d): %+v", id, mark, after)
		}
	}
	for m := range 5 {
		mark(1, m, api.OK)
	}
	mark(1, 2, api.OK)
	for _, m := range append([]int{5}, far...) {
		mark(1, m, api.ErrRange)
		mark(6, m, api.ErrKind)
		mark(2, m, api.ErrArg)
	}
	mark(6, 0, api.ErrKind)
	mark(0, 0, api.ErrArg)
	mark(math.MinInt, 0, api.ErrArg)
}

func TestP12_2SetPlace(t *testing.T) {
	a := some(t, 4)
	add(t, a, api.KindTable, 0, 2, 3, api.OK)
	add(t, a, api.KindFrame, 0, 1, 2, api.OK)
	place := func(id, serial, page, level int, want api.Errno) {
		t.Helper()
		before, _ := a.Get(id)
		code := a.SetPlace(id, serial, page, level)
		after, _ := a.Get(id)
		if code != want {
			t.Errorf("SetPlace(%d, %d, %d, %d): %d; want %d", id, serial, page, level, code, want)
		}
		if want == api.OK {
			before.Serial, before.Page, before.Level = serial, page, level
		}
		if after != before {
			t.Errorf("SetPlace(%d, %d, %d, %d): %+v", id, serial, page, level, after)
		}
	}
	place(3, 1, 0, 1, api.OK)
	place(3, 1<<24-1, 511, 2, api.OK)
	for _, x := range [][3]int{{0, 0, 1}, {0, 1, 0}, {1, 0, 0}, {0, 5, 2}, {1, 0, 3}, {1, 0, -1}, {1, 512, 1}, {1, -1, 1}, {1 << 24, 0, 1}, {-1, 0, 1}, {-1, 0, 0}, {math.MinInt, 0, 1}, {1, math.MaxInt, 2}, {1, 1, math.MaxInt}} {
		place(3, x[0], x[1], x[2], api.ErrRange)
		place(2, x[0], x[1], x[2], api.ErrKind)
		place(1, x[0], x[1], x[2], api.ErrArg)
	}
	place(2, 0, 0, 0, api.ErrKind)
	place(0, 0, 0, 0, api.ErrArg)
	place(3, 0, 0, 0, api.OK)
}

func TestP12_3RandomAdds(t *testing.T) {
	seed := uint32(7)
	next := func(n int) int {
		seed = seed*1664525 + 1013904223
		return int(seed>>8) % n
	}
	a := some(t, 24)
	used, counts := map[int]int{}, [24]int{}
	for range 6000 {
		if list := a.All(); len(list) > 0 && next(3) == 0 {
			a.Drop(list[next(len(list))].ID)
		}
		kind, size := 1+next(9), 0
		if kind <= api.KindNode {
			size = 1 + next(4)
		}
		first := next(24)
		id, code := a.Add(kind, size, first)
		if code != api.OK {
			continue
		}
		used[id]++
		if used[id] != 1 || id != first+1+64*counts[first] {
			t.Fatalf("the number %d at frame %d, where %d objects were before", id, first, counts[first])
		}
		counts[first]++
		list := a.All()
		for i, x := range list {
			if i > 0 && list[i-1].ID >= x.ID {
				t.Fatal("All is not ascending")
			}
			for _, y := range list[:i] {
				if x.Kind != api.KindUntyped && y.Kind != api.KindUntyped && x.First < y.First+y.Frames && y.First < x.First+x.Frames {
					t.Fatalf("%+v and %+v meet", x, y)
				}
			}
		}
	}
}

func TestAllIsACopy(t *testing.T) {
	a := some(t, 2)
	add(t, a, api.KindFrame, 0, 0, 1, api.OK)
	a.All()[0].Kind = api.KindRoot
	all(t, a, api.Object{ID: 1, Kind: api.KindFrame, Frames: 1})
}

func TestNilArena(t *testing.T) {
	var a *arena.Arena
	add(t, a, 0, 0, 0, 0, api.ErrNil)
	if x, ok := a.Get(1); ok || x != (api.Object{}) || a.Next(0) != 0 || len(a.All()) != 0 {
		t.Error("a nil arena has something")
	}
	if a.Drop(1) != api.ErrNil || a.SetMark(1, -1) != api.ErrNil || a.SetPlace(1, -1, 0, 0) != api.ErrNil {
		t.Error("a call of a nil arena is not ErrNil")
	}
}
