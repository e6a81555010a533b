package asid_test

import (
	"math"
	"slices"
	"testing"

	"seisin/api"
	"seisin/asid"
)

var far = []int{math.MinInt, -1, 1 << 40, math.MaxInt}

func addPool(t *testing.T, a *asid.Asids, obj, place int, want api.Errno) {
	t.Helper()
	if p, code := a.AddPool(obj); p != place || code != want {
		t.Errorf("AddPool(%d) = %d, %d; want %d, %d", obj, p, code, place, want)
	}
}

func dropPool(t *testing.T, a *asid.Asids, obj int, want []int, code api.Errno) {
	t.Helper()
	if ns, e := a.DropPool(obj); !slices.Equal(ns, want) || e != code {
		t.Errorf("DropPool(%d) = %v, %d; want %v, %d", obj, ns, e, want, code)
	}
}

func assign(t *testing.T, a *asid.Asids, pool, root, number, serial int, want api.Errno) {
	t.Helper()
	if n, s, code := a.Assign(pool, root); n != number || s != serial || code != want {
		t.Errorf("Assign(%d, %d) = %d, %d, %d; want %d, %d, %d", pool, root, n, s, code, number, serial, want)
	}
}

func unassign(t *testing.T, a *asid.Asids, root, number int, want api.Errno) {
	t.Helper()
	if n, code := a.Unassign(root); n != number || code != want {
		t.Errorf("Unassign(%d) = %d, %d; want %d, %d", root, n, code, number, want)
	}
}

func of(t *testing.T, a *asid.Asids, root, number, serial int, want bool) {
	t.Helper()
	if n, s, ok := a.Of(root); n != number || s != serial || ok != want {
		t.Errorf("Of(%d) = %d, %d, %v; want %d, %d, %v", root, n, s, ok, number, serial, want)
	}
	if want {
		if r, n, ok := a.Root(serial); r != root || n != number || !ok {
			t.Errorf("Root(%d) = %d, %d, %v; want %d, %d", serial, r, n, ok, root, number)
		}
	}
}

func noRoot(t *testing.T, a *asid.Asids, serial int) {
	t.Helper()
	if r, n, ok := a.Root(serial); r != 0 || n != 0 || ok {
		t.Errorf("Root(%d) = %d, %d, %v; want none", serial, r, n, ok)
	}
}

func TestP19_Example(t *testing.T) {
	a := asid.New()
	addPool(t, a, 5, 0, api.OK)
	assign(t, a, 5, 9, 1, 1, api.OK)
	assign(t, a, 5, 10, 2, 2, api.OK)
	assign(t, a, 5, 9, 0, 0, api.ErrMapped)
	unassign(t, a, 9, 1, api.OK)
	assign(t, a, 5, 11, 1, 33, api.OK)
	noRoot(t, a, 1)
	dropPool(t, a, 5, []int{1, 2}, api.OK)
	addPool(t, a, 6, 1, api.OK)
}

func TestP19_1Pools(t *testing.T) {
	a := asid.New()
	if a.Pools() != [8]api.Pool{} {
		t.Error("a new object has pools")
	}
	for _, obj := range []int{0, -1, math.MinInt} {
		addPool(t, a, obj, 0, api.ErrArg)
		dropPool(t, a, obj, nil, api.ErrArg)
	}
	for i := range 8 {
		dropPool(t, a, 100+i, nil, api.ErrArg)
		addPool(t, a, 100+i, i, api.OK)
		addPool(t, a, 100+i, 0, api.ErrBusy)
	}
	addPool(t, a, 108, 0, api.ErrFull)
	addPool(t, a, 103, 0, api.ErrBusy)
	addPool(t, a, 0, 0, api.ErrArg)
	dropPool(t, a, 103, nil, api.OK)
	dropPool(t, a, 103, nil, api.ErrArg)
	addPool(t, a, 103, 0, api.ErrFull)
	addPool(t, a, 108, 0, api.ErrFull)
	want := [8]api.Pool{}
	for i := range 8 {
		want[i].Obj = 100 + i
	}
	want[3] = api.Pool{Dead: true}
	if a.Pools() != want {
		t.Errorf("Pools = %+v", a.Pools())
	}
}

func TestP19_1DroppedPool(t *testing.T) {
	a := asid.New()
	addPool(t, a, 5, 0, api.OK)
	addPool(t, a, 6, 1, api.OK)
	assign(t, a, 6, 20, 4, 4, api.OK)
	assign(t, a, 6, 21, 5, 5, api.OK)
	assign(t, a, 6, 22, 6, 6, api.OK)
	assign(t, a, 5, 23, 1, 1, api.OK)
	unassign(t, a, 21, 5, api.OK)
	dropPool(t, a, 6, []int{4, 6}, api.OK)
	of(t, a, 20, 0, 0, false)
	of(t, a, 22, 0, 0, false)
	of(t, a, 23, 1, 1, true)
	noRoot(t, a, 4)
	noRoot(t, a, 6)
	unassign(t, a, 20, 0, api.ErrStale)
	assign(t, a, 6, 20, 0, 0, api.ErrArg)
	want := [8]api.Pool{{Obj: 5, Roots: [4]int{0, 23}, Serials: [4]int{0, 1}}, {Dead: true}}
	if a.Pools() != want {
		t.Errorf("Pools = %+v", a.Pools())
	}
	// The place is never free again, so an object may come back at another one.
	addPool(t, a, 6, 2, api.OK)
	assign(t, a, 6, 20, 8, 8, api.OK)
}

func TestP19_2Assign(t *testing.T) {
	a := asid.New()
	for i := range 8 {
		addPool(t, a, 100+i, i, api.OK)
	}
	root := 1
	for place := range 8 {
		for i := range 4 {
			n := place*4 + i
			if n == 0 {
				continue
			}
			assign(t, a, 100+place, root, n, n, api.OK)
			of(t, a, root, n, n, true)
			root++
		}
		assign(t, a, 100+place, root, 0, 0, api.ErrFull)
		assign(t, a, 100+place, root-1, 0, 0, api.ErrMapped)
	}
	assign(t, a, 100, 31, 0, 0, api.ErrMapped)
	for _, pool := range append([]int{0, 99, 108}, far...) {
		assign(t, a, pool, 1, 0, 0, api.ErrArg)
		assign(t, a, pool, 50, 0, 0, api.ErrArg)
	}
	for _, r := range []int{0, -1, math.MinInt} {
		assign(t, a, 100, r, 0, 0, api.ErrArg)
		of(t, a, r, 0, 0, false)
		unassign(t, a, r, 0, api.ErrStale)
	}
	want := a.Pools()
	for place, p := range want {
		for i := range 4 {
			n := place*4 + i
			if p.Serials[i] != n || n > 0 && p.Roots[i] == 0 || p.Obj != 100+place || p.Dead {
				t.Errorf("Pools = %+v", p)
			}
		}
	}
}

func TestP19_2LowestNumberAndSerials(t *testing.T) {
	a := asid.New()
	addPool(t, a, 5, 0, api.OK)
	addPool(t, a, 6, 1, api.OK)
	for i, n := range []int{4, 5, 6, 7} {
		assign(t, a, 6, 10+i, n, n, api.OK)
	}
	unassign(t, a, 12, 6, api.OK)
	unassign(t, a, 11, 5, api.OK)
	unassign(t, a, 11, 0, api.ErrStale)
	assign(t, a, 6, 12, 5, 37, api.OK)
	of(t, a, 12, 5, 37, true)
	of(t, a, 11, 0, 0, false)
	assign(t, a, 6, 11, 6, 38, api.OK)
	noRoot(t, a, 5)
	noRoot(t, a, 6)
	// The serials of a number do not depend on other numbers.
	for k := range 20 {
		unassign(t, a, 10, 4, api.OK)
		assign(t, a, 6, 10, 4, 4+32*(k+1), api.OK)
	}
	assign(t, a, 5, 30, 1, 1, api.OK)
	unassign(t, a, 13, 7, api.OK)
	assign(t, a, 6, 13, 7, 39, api.OK)
}

func TestP19_2SerialsRunOut(t *testing.T) {
	a := asid.New()
	addPool(t, a, 5, 0, api.OK)
	addPool(t, a, 6, 1, api.OK)
	assign(t, a, 6, 12, 4, 4, api.OK)
	last := 0
	for k := range 1 << 19 {
		n, s, code := a.Assign(5, 9)
		if n != 1 || s != 1+32*k || code != api.OK {
			t.Fatalf("Assign, %d times before: %d, %d, %d", k, n, s, code)
		}
		last = s
		a.Unassign(9)
	}
	if last > api.MaxSerial || last+32 <= api.MaxSerial {
		t.Fatalf("the last serial is %d", last)
	}
	assign(t, a, 5, 9, 2, 2, api.OK)
	assign(t, a, 5, 10, 3, 3, api.OK)
	assign(t, a, 5, 11, 0, 0, api.ErrFull)
	noRoot(t, a, last)
}

func TestP19_2TheLastSerial(t *testing.T) {
	a := asid.New()
	for i := range 8 {
		addPool(t, a, 1+i, i, api.OK)
	}
	for i := range 3 {
		assign(t, a, 8, 100+i, 28+i, 28+i, api.OK)
	}
	last := 0
	for {
		_, s, code := a.Assign(8, 9)
		if code != api.OK {
			break
		}
		last = s
		a.Unassign(9)
	}
	// Number 31 is the one that gets the greatest serial that there is.
	if last != api.MaxSerial {
		t.Errorf("the last serial is %d", last)
	}
}

func TestP19_2Nothing(t *testing.T) {
	a := asid.New()
	addPool(t, a, 5, 0, api.OK)
	assign(t, a, 5, 9, 1, 1, api.OK)
	for _, n := range append([]int{0, 2, 33}, far...) {
		noRoot(t, a, n)
		of(t, a, n, 0, 0, false)
		unassign(t, a, n, 0, api.ErrStale)
	}
	of(t, a, 9, 1, 1, true)
}

func TestNilAsids(t *testing.T) {
	var a *asid.Asids
	addPool(t, a, 0, 0, api.ErrNil)
	dropPool(t, a, 0, nil, api.ErrNil)
	assign(t, a, 0, 0, 0, 0, api.ErrNil)
	unassign(t, a, 0, 0, api.ErrNil)
	of(t, a, 1, 0, 0, false)
	noRoot(t, a, 1)
	if a.Pools() != [8]api.Pool{} {
		t.Error("Pools")
	}
}
