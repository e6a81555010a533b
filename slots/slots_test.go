package slots_test

import (
	"math"
	"slices"
	"testing"

	"seisin/api"
	"seisin/slots"
)

var far = []int{math.MinInt, -1, 1 << 40, math.MaxInt}

func at(node, index int) api.Slot { return api.Slot{Node: node, Index: index} }

func end(obj int) api.Cap { return api.Cap{Kind: api.KindEndpoint, Obj: obj, Rights: 7} }

func add(t *testing.T, s *slots.Slots, node, n int, want api.Errno) {
	t.Helper()
	if code := s.Add(node, n); code != want {
		t.Errorf("Add(%d, %d): %d; want %d", node, n, code, want)
	}
}

func set(t *testing.T, s *slots.Slots, x api.Slot, c api.Cap, want api.Errno) {
	t.Helper()
	if code := s.Set(x, c); code != want {
		t.Errorf("Set(%v, %+v): %d; want %d", x, c, code, want)
	}
}

func get(t *testing.T, s *slots.Slots, x api.Slot, want api.Cap, code api.Errno) {
	t.Helper()
	if c, e := s.Get(x); c != want || e != code {
		t.Errorf("Get(%v) = %+v, %d; want %+v, %d", x, c, e, want, code)
	}
}

func used(t *testing.T, s *slots.Slots, want ...api.Held) {
	t.Helper()
	if got := s.Used(); !slices.Equal(got, want) {
		t.Errorf("Used = %+v; want %+v", got, want)
	}
}

func TestP15_1AddSize(t *testing.T) {
	s := slots.New()
	used(t, s)
	for n := 1; n <= 16; n++ {
		add(t, s, 100-n, n, api.OK)
		add(t, s, 100-n, n, api.ErrFull)
		if s.Size(100-n) != n {
			t.Errorf("Size = %d; want %d", s.Size(100-n), n)
		}
		for i := range n {
			get(t, s, at(100-n, i), api.Cap{}, api.OK)
		}
		get(t, s, at(100-n, n), api.Cap{}, api.ErrRange)
	}
	for _, n := range append([]int{0, 17}, far...) {
		add(t, s, 5, n, api.ErrArg)
		add(t, s, 99, n, api.ErrArg)
	}
	for _, node := range []int{0, -1, math.MinInt} {
		add(t, s, node, 4, api.ErrArg)
		if s.Size(node) != 0 {
			t.Errorf("Size(%d) = %d", node, s.Size(node))
		}
	}
	add(t, s, 1, 1, api.OK)
	add(t, s, math.MaxInt, 4, api.OK)
	if s.Size(math.MaxInt) != 4 || s.Size(5) != 0 || s.Size(100) != 0 {
		t.Error("Size")
	}
	used(t, s)
}

func TestP15_1AddKeepsSlots(t *testing.T) {
	s := slots.New()
	add(t, s, 7, 2, api.OK)
	set(t, s, at(7, 1), end(3), api.OK)
	add(t, s, 7, 4, api.ErrFull)
	if s.Size(7) != 2 {
		t.Errorf("Size = %d", s.Size(7))
	}
	get(t, s, at(7, 1), end(3), api.OK)
}

func TestP15_1Drop(t *testing.T) {
	s := slots.New()
	add(t, s, 7, 2, api.OK)
	add(t, s, 8, 2, api.OK)
	set(t, s, at(7, 1), end(3), api.OK)
	for _, node := range append([]int{0, 6, 9}, far...) {
		if code := s.Drop(node); code != api.ErrArg {
			t.Errorf("Drop(%d): %d", node, code)
		}
	}
	if code := s.Drop(7); code != api.ErrBusy || s.Size(7) != 2 {
		t.Errorf("Drop of a node that is used: %d", code)
	}
	if code := s.Drop(8); code != api.OK || s.Size(8) != 0 {
		t.Errorf("Drop(8): %d", code)
	}
	get(t, s, at(8, 0), api.Cap{}, api.ErrRange)
	set(t, s, at(7, 1), api.Cap{}, api.OK)
	if code := s.Drop(7); code != api.OK {
		t.Errorf("Drop of an emptied node: %d", code)
	}
	if code := s.Drop(7); code != api.ErrArg {
		t.Errorf("Drop again: %d", code)
	}
	add(t, s, 7, 3, api.OK)
	for i := range 3 {
		get(t, s, at(7, i), api.Cap{}, api.OK)
	}
}

func TestP15_2GetSet(t *testing.T) {
	s := slots.New()
	add(t, s, 7, 2, api.OK)
	add(t, s, 9, 16, api.OK)
	for _, x := range []api.Slot{at(7, 2), at(7, -1), at(8, 0), at(0, 0), at(-7, 0), at(7, math.MinInt), at(7, math.MaxInt), at(9, 16), at(math.MaxInt, 0)} {
		get(t, s, x, api.Cap{}, api.ErrRange)
		set(t, s, x, end(3), api.ErrRange)
		set(t, s, x, api.Cap{Kind: 99}, api.ErrRange)
	}
	set(t, s, at(7, 1), end(3), api.OK)
	set(t, s, at(9, 15), api.Cap{Kind: api.KindControl}, api.OK)
	get(t, s, at(7, 1), end(3), api.OK)
	get(t, s, at(7, 0), api.Cap{}, api.OK)
	get(t, s, at(9, 15), api.Cap{Kind: api.KindControl}, api.OK)
	for _, c := range []api.Cap{{Obj: 1}, {Kind: api.KindFrame, Obj: 1}, {Kind: 10, Obj: 1}, {Kind: api.KindEndpoint}, {Kind: api.KindNode, Obj: 65536}} {
		set(t, s, at(7, 1), c, api.ErrForm)
		get(t, s, at(7, 1), end(3), api.OK)
	}
	set(t, s, at(7, 1), end(4), api.OK)
	get(t, s, at(7, 1), end(4), api.OK)
	set(t, s, at(7, 1), api.Cap{}, api.OK)
	get(t, s, at(7, 1), api.Cap{}, api.OK)
}

func TestP15_2Used(t *testing.T) {
	s := slots.New()
	for _, node := range []int{7, 300, 2, 65} {
		add(t, s, node, 3, api.OK)
	}
	for i, x := range []api.Slot{at(65, 2), at(300, 0), at(7, 1), at(65, 0), at(2, 2)} {
		set(t, s, x, end(i+1), api.OK)
	}
	held := func(x api.Slot, obj int) api.Held { return api.Held{Slot: x, Cap: end(obj)} }
	used(t, s, held(at(2, 2), 5), held(at(7, 1), 3), held(at(65, 0), 4), held(at(65, 2), 1), held(at(300, 0), 2))
	set(t, s, at(7, 1), api.Cap{}, api.OK)
	used(t, s, held(at(2, 2), 5), held(at(65, 0), 4), held(at(65, 2), 1), held(at(300, 0), 2))
	s.Used()[0].Cap.Obj = 9
	get(t, s, at(2, 2), end(5), api.OK)
}

func TestNilSlots(t *testing.T) {
	var s *slots.Slots
	if s.Add(0, 0) != api.ErrNil || s.Drop(1) != api.ErrNil || s.Size(1) != 0 || len(s.Used()) != 0 {
		t.Error("nil slots do something")
	}
	get(t, s, at(1, 0), api.Cap{}, api.ErrNil)
	set(t, s, at(1, 0), api.Cap{Kind: 99}, api.ErrNil)
}
