package thread_test

import (
	"math"
	"slices"
	"testing"

	"seisin/api"
	"seisin/thread"
)

func fresh(id int) api.Thread { return api.Thread{ID: id, Give: 4096, In: 4096} }

func get(t *testing.T, x *thread.Threads, id int, want api.Thread, there bool) {
	t.Helper()
	if r, ok := x.Get(id); r != want || ok != there {
		t.Errorf("Get(%d) = %+v, %v; want %+v, %v", id, r, ok, want, there)
	}
}

func is(t *testing.T, call string, code, want api.Errno) {
	t.Helper()
	if code != want {
		t.Errorf("%s: %d; want %d", call, code, want)
	}
}

// bad are records of thread 4 that are not valid.
func bad() []api.Thread {
	var list []api.Thread
	with := func(change func(*api.Thread)) {
		r := fresh(4)
		change(&r)
		list = append(list, r)
	}
	for _, n := range []int{math.MinInt, -1, 5, 9, math.MaxInt} {
		with(func(r *api.Thread) { r.State = n })
	}
	for _, n := range []int{math.MinInt, -1, 8, math.MaxInt} {
		with(func(r *api.Thread) { r.Prio = n })
	}
	for _, n := range []int{math.MinInt, -1} {
		with(func(r *api.Thread) { r.Caller = n })
		with(func(r *api.Thread) { r.Wait = n })
	}
	for _, n := range []int{math.MinInt, -1, 4097, math.MaxInt} {
		with(func(r *api.Thread) { r.Give = n })
		with(func(r *api.Thread) { r.In = n })
	}
	return list
}

// good are records of thread 4 that are valid.
func good() []api.Thread {
	list := []api.Thread{fresh(4), {ID: 4}, {ID: 4, State: 4, Prio: 7, Caller: math.MaxInt, Wait: math.MaxInt, Give: 4096}, {ID: 4, In: 4096}}
	for state := range 5 {
		list = append(list, api.Thread{ID: 4, State: state, Prio: state, Give: state, In: 4095})
	}
	return append(list, api.Thread{
		ID: 4, State: api.Replying, Prio: 3, Msg: [4]uint64{1, 2, 3, math.MaxUint64}, Badge: math.MaxUint64, Got: true, Caller: 4, Wait: 5,
		Out: [4]uint64{5, 6, 7, 8}, OutBadge: 9, Give: 1, In: 2, Calls: true, Faulted: true, Retry: api.Access{Has: true, Write: true, Va: 64, Value: 7},
	})
}

func TestP20_1May(t *testing.T) {
	for _, r := range good() {
		if !thread.May(r) {
			t.Errorf("May(%+v) is false", r)
		}
	}
	for _, r := range bad() {
		if thread.May(r) {
			t.Errorf("May(%+v) is true", r)
		}
	}
	for _, id := range []int{math.MinInt, -1, 0} {
		if thread.May(fresh(id)) {
			t.Errorf("May of ID %d", id)
		}
	}
	if !thread.May(fresh(1)) || !thread.May(fresh(math.MaxInt)) {
		t.Error("May of the bounds of ID")
	}
}

func TestP20_1AddDropGet(t *testing.T) {
	x := thread.New()
	if len(x.All()) != 0 {
		t.Error("a new object has threads")
	}
	for _, id := range []int{0, -1, math.MinInt} {
		is(t, "Add", x.Add(id), api.ErrArg)
		is(t, "Drop", x.Drop(id), api.ErrArg)
		get(t, x, id, api.Thread{}, false)
	}
	for _, id := range []int{4, 300, 1, 65} {
		get(t, x, id, api.Thread{}, false)
		is(t, "Drop", x.Drop(id), api.ErrArg)
		is(t, "Add", x.Add(id), api.OK)
		get(t, x, id, fresh(id), true)
		is(t, "Add again", x.Add(id), api.ErrFull)
	}
	if got := x.All(); !slices.Equal(got, []api.Thread{fresh(1), fresh(4), fresh(65), fresh(300)}) {
		t.Errorf("All = %+v", got)
	}
	is(t, "Drop", x.Drop(65), api.OK)
	is(t, "Drop again", x.Drop(65), api.ErrArg)
	get(t, x, 65, api.Thread{}, false)
	get(t, x, 4, fresh(4), true)
	if got := x.All(); !slices.Equal(got, []api.Thread{fresh(1), fresh(4), fresh(300)}) {
		t.Errorf("All = %+v", got)
	}
	x.All()[0].Prio = 5
	get(t, x, 1, fresh(1), true)
}

func TestP20_1Set(t *testing.T) {
	x := thread.New()
	is(t, "Set of no thread", x.Set(fresh(4)), api.ErrArg)
	get(t, x, 4, api.Thread{}, false)
	x.Add(4)
	x.Add(5)
	for _, r := range good() {
		is(t, "Set", x.Set(r), api.OK)
		get(t, x, 4, r, true)
		get(t, x, 5, fresh(5), true)
		for _, b := range bad() {
			is(t, "Set of a bad record", x.Set(b), api.ErrArg)
		}
		get(t, x, 4, r, true)
	}
	is(t, "Set of no thread", x.Set(fresh(6)), api.ErrArg)
	is(t, "Set of ID 0", x.Set(fresh(0)), api.ErrArg)
	is(t, "Add again", x.Add(4), api.ErrFull)
	get(t, x, 4, good()[len(good())-1], true)
	x.Drop(4)
	x.Add(4)
	get(t, x, 4, fresh(4), true)
}

func TestP20_1Server(t *testing.T) {
	x := thread.New()
	for _, id := range []int{9, 2, 5} {
		x.Add(id)
	}
	server := func(id, want int) {
		t.Helper()
		if got := x.Server(id); got != want {
			t.Errorf("Server(%d) = %d; want %d", id, got, want)
		}
	}
	calls := func(server, caller int) {
		r := fresh(server)
		r.Caller = caller
		is(t, "Set", x.Set(r), api.OK)
	}
	server(0, 0)
	server(2, 0)
	calls(9, 2)
	server(2, 9)
	server(9, 0)
	calls(5, 2)
	server(2, 5)
	calls(2, 2)
	server(2, 2)
	calls(2, 7)
	server(7, 2)
	server(2, 5)
	server(0, 0)
	for _, id := range []int{math.MinInt, -1, math.MaxInt} {
		server(id, 0)
	}
	x.Drop(5)
	server(2, 9)
}

func TestNilThreads(t *testing.T) {
	var x *thread.Threads
	is(t, "Add", x.Add(0), api.ErrNil)
	is(t, "Drop", x.Drop(0), api.ErrNil)
	is(t, "Set", x.Set(api.Thread{}), api.ErrNil)
	get(t, x, 1, api.Thread{}, false)
	if x.Server(1) != 0 || len(x.All()) != 0 {
		t.Error("nil threads have something")
	}
}
