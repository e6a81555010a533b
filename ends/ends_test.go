package ends_test

import (
	"math"
	"slices"
	"testing"

	"seisin/api"
	"seisin/ends"
)

func is(t *testing.T, call string, code, want api.Errno) {
	t.Helper()
	if code != want {
		t.Errorf("%s: %d; want %d", call, code, want)
	}
}

// list checks List and First.
func list(t *testing.T, e *ends.Ends, id int, sends bool, want ...int) {
	t.Helper()
	got, s := e.List(id)
	if !slices.Equal(got, want) || s != sends {
		t.Errorf("List(%d) = %v, %v; want %v, %v", id, got, s, want, sends)
	}
	first, s, ok := e.First(id)
	if len(want) == 0 && (first != 0 || s || ok) || len(want) > 0 && (first != want[0] || s != sends || !ok) {
		t.Errorf("First(%d) = %d, %v, %v of %v", id, first, s, ok, want)
	}
}

func drop(t *testing.T, e *ends.Ends, id int, code api.Errno, want ...int) {
	t.Helper()
	if got, c := e.Drop(id); !slices.Equal(got, want) || c != code {
		t.Errorf("Drop(%d) = %v, %d; want %v, %d", id, got, c, want, code)
	}
}

func TestP22_1Example(t *testing.T) {
	e := ends.New()
	is(t, "Add", e.Add(6), api.OK)
	is(t, "Wait", e.Wait(6, 1, true), api.OK)
	is(t, "Wait", e.Wait(6, 2, false), api.ErrBusy)
	is(t, "Wait", e.Wait(6, 3, true), api.OK)
	list(t, e, 6, true, 1, 3)
	if !e.Remove(1) {
		t.Error("Remove(1)")
	}
	list(t, e, 6, true, 3)
}

func TestP22_1AddDrop(t *testing.T) {
	e := ends.New()
	for _, id := range []int{0, -1, math.MinInt} {
		is(t, "Add", e.Add(id), api.ErrArg)
		drop(t, e, id, api.ErrArg)
	}
	is(t, "Add", e.Add(6), api.OK)
	is(t, "Add", e.Add(3), api.OK)
	is(t, "Add again", e.Add(6), api.ErrFull)
	is(t, "Wait", e.Wait(6, 4, false), api.OK)
	is(t, "Add again", e.Add(6), api.ErrFull)
	is(t, "Wait", e.Wait(6, 2, false), api.OK)
	is(t, "Wait", e.Wait(3, 9, true), api.OK)
	list(t, e, 6, false, 4, 2)
	drop(t, e, 7, api.ErrArg)
	drop(t, e, 6, api.OK, 4, 2)
	drop(t, e, 6, api.ErrArg)
	list(t, e, 6, false)
	list(t, e, 3, true, 9)
	if e.Remove(4) {
		t.Error("a thread waits at a dropped endpoint")
	}
	is(t, "Wait", e.Wait(3, 4, true), api.OK)
	is(t, "Add", e.Add(6), api.OK)
	list(t, e, 6, false)
	is(t, "Wait", e.Wait(6, 8, true), api.OK)
	list(t, e, 3, true, 9, 4)
	list(t, e, math.MaxInt, false)
}

func TestP22_1Wait(t *testing.T) {
	e := ends.New()
	is(t, "Wait nowhere", e.Wait(6, 1, true), api.ErrArg)
	e.Add(6)
	e.Add(7)
	for _, thread := range []int{0, -1, math.MinInt} {
		is(t, "Wait of no thread", e.Wait(6, thread, true), api.ErrArg)
		is(t, "Wait of no thread", e.Wait(5, thread, true), api.ErrArg)
	}
	is(t, "Wait", e.Wait(6, 1, true), api.OK)
	for _, sends := range []bool{true, false} {
		is(t, "Wait again", e.Wait(6, 1, sends), api.ErrBusy)
		is(t, "Wait elsewhere, too", e.Wait(7, 1, sends), api.ErrBusy)
		is(t, "Wait nowhere, too", e.Wait(8, 1, sends), api.ErrArg)
	}
	is(t, "Wait for the opposite", e.Wait(6, 2, false), api.ErrBusy)
	is(t, "Wait at another endpoint", e.Wait(7, 2, false), api.OK)
	list(t, e, 6, true, 1)
	list(t, e, 7, false, 2)
	// Where nobody waits any more, others may wait for the opposite.
	e.Remove(1)
	list(t, e, 6, false)
	is(t, "Wait", e.Wait(6, 3, false), api.OK)
	is(t, "Wait", e.Wait(6, 1, true), api.ErrBusy)
	list(t, e, 6, false, 3)
	is(t, "Wait", e.Wait(6, math.MaxInt, false), api.OK)
	list(t, e, 6, false, 3, math.MaxInt)
}

func TestP22_1Remove(t *testing.T) {
	e := ends.New()
	if e.Remove(1) || e.Remove(0) {
		t.Error("Remove of a thread that waits nowhere")
	}
	for id := 1; id <= 3; id++ {
		e.Add(id)
		for i := range 4 {
			is(t, "Wait", e.Wait(id, 10*id+i, id == 2), api.OK)
		}
	}
	if !e.Remove(21) || e.Remove(21) || !e.Remove(33) || e.Remove(99) || e.Remove(2) || e.Remove(-21) {
		t.Error("Remove")
	}
	list(t, e, 1, false, 10, 11, 12, 13)
	list(t, e, 2, true, 20, 22, 23)
	list(t, e, 3, false, 30, 31, 32)
	is(t, "Wait", e.Wait(2, 21, true), api.OK)
	list(t, e, 2, true, 20, 22, 23, 21)
}

func TestListIsACopy(t *testing.T) {
	e := ends.New()
	e.Add(6)
	e.Wait(6, 1, true)
	e.Wait(6, 2, true)
	got, _ := e.List(6)
	got[0] = 9
	_ = append(got[:1], 8)
	list(t, e, 6, true, 1, 2)
	got, _ = e.List(6)
	e.Remove(1)
	e.Wait(6, 5, true)
	if !slices.Equal(got, []int{1, 2}) {
		t.Error("a call changed an earlier result of List")
	}
}

func TestNilEnds(t *testing.T) {
	var e *ends.Ends
	is(t, "Add", e.Add(0), api.ErrNil)
	is(t, "Wait", e.Wait(0, 0, true), api.ErrNil)
	drop(t, e, 0, api.ErrNil)
	list(t, e, 1, false)
	if e.Remove(1) {
		t.Error("Remove")
	}
}
