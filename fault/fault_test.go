package fault_test

import (
	"fmt"
	"math"
	"slices"
	"testing"

	"seisin/api"
	"seisin/fault"
	"seisin/ipc"
	"seisin/realm"
)

// equal compares two values as they are printed, so that a list that is nil
// and one that is empty are the same.
func equal(a, b any) bool { return fmt.Sprintf("%+v", a) == fmt.Sprintf("%+v", b) }

func at(node, index int) api.Slot { return api.Slot{Node: node, Index: index} }

func is(t *testing.T, call string, code, want api.Errno) {
	t.Helper()
	if code != want {
		t.Errorf("%s: %d; want %d", call, code, want)
	}
}

const none = api.NoAddr

// end is the endpoint; its capability with all rights is in {6, 0}.
const end = 20

// fixture has the threads 1 to 3, all Ready; 1 is current on core 0, whose
// root is frame 10 with page 0 for frame 13 (Read), page 1 for frame 14 (both).
func fixture(t *testing.T) *realm.Realm {
	t.Helper()
	r, code := realm.New(30, 2)
	if code != api.OK {
		t.Fatal(code)
	}
	for _, x := range []struct{ kind, size, first int }{{api.KindThread, 0, 0}, {api.KindThread, 0, 1}, {api.KindThread, 0, 2}, {api.KindNode, 2, 5}, {api.KindEndpoint, 0, 19}} {
		if _, code := r.Make(x.kind, x.size, x.first); code != api.OK {
			t.Fatal(code)
		}
	}
	for id := 1; id <= 3; id++ {
		is(t, "State", r.State(id, api.Ready), api.OK)
	}
	is(t, "Root", r.Hold().Root(at(6, 0), api.Cap{Kind: api.KindEndpoint, Obj: end, Rights: 7}), api.OK)
	for a, w := range map[uint64]uint64{640: 0xb01, 704: 0xc01, 768: 0xd07, 776: 0xe0f, 13 * 64: 31, 14*64 + 8: 42} {
		r.Mem().Store(a, w)
	}
	is(t, "Run", r.Run(0, 1), api.OK)
	is(t, "Set", r.Cores().Set(0, 10, 1), api.OK)
	return r
}

// pager gives the thread 1 a pager's capability with badge 3 and these rights.
func pager(t *testing.T, r *realm.Realm, rights int) {
	t.Helper()
	is(t, "Mint", r.Hold().Mint(at(6, 0), at(1, api.SlotPager), rights, 3), api.OK)
}

func load(va uint64) api.Access { return api.Access{Va: va} }

func store(va, v uint64) api.Access { return api.Access{Write: true, Va: va, Value: v} }

func does(t *testing.T, r *realm.Realm, core int, x api.Access, want ...api.Note) {
	t.Helper()
	if notes, code := fault.Do(r, core, x); !slices.Equal(notes, want) || code != api.OK {
		t.Errorf("Do(%d, %+v) = %+v, %d; want %+v", core, x, notes, code, want)
	}
}

func again(t *testing.T, r *realm.Realm, core int, want ...api.Note) {
	t.Helper()
	if notes, code := fault.Again(r, core); !slices.Equal(notes, want) || code != api.OK {
		t.Errorf("Again(%d) = %+v, %d; want %+v", core, notes, code, want)
	}
}

func record(t *testing.T, r *realm.Realm, want api.Thread) {
	t.Helper()
	if got, _ := r.Threads().Get(want.ID); got != want {
		t.Errorf("the thread %d: %+v; want %+v", want.ID, got, want)
	}
	if r.Queue().Has(want.ID) != (want.State == api.Ready) {
		t.Errorf("the thread %d in the queue: %v", want.ID, r.Queue().Has(want.ID))
	}
}

// faulted is the note of a fault of the thread 1.
func faulted(kind int, va uint64, write bool) api.Note {
	return api.Note{Thread: 1, Code: api.ErrFault, Fault: api.Fault{Kind: kind, Va: va, Write: write}}
}

func TestP27_1NoFault(t *testing.T) {
	r := fixture(t)
	does(t, r, 0, load(0), api.Note{Thread: 1, Value: 31})
	does(t, r, 0, load(72), api.Note{Thread: 1, Value: 42})
	does(t, r, 0, store(80, 77), api.Note{Thread: 1})
	does(t, r, 0, api.Access{Has: true, Va: 80, Value: 5}, api.Note{Thread: 1, Value: 77})
	if v, _ := r.Mem().Load(14*64 + 16); v != 77 {
		t.Errorf("the stored word: %d", v)
	}
	record(t, r, api.Thread{ID: 1, State: api.Ready, Give: none, In: none})
	rec, _ := r.Threads().Get(1)
	rec.Retry = api.Access{Has: true, Va: 8}
	r.Threads().Set(rec)
	does(t, r, 0, load(0), api.Note{Thread: 1, Value: 31})
	record(t, r, api.Thread{ID: 1, State: api.Ready, Give: none, In: none})
}

func TestP27_1Errors(t *testing.T) {
	r := fixture(t)
	fails := func(core int, want api.Errno) {
		t.Helper()
		before := r.View()
		if notes, code := fault.Do(r, core, load(4096)); len(notes) != 0 || code != want {
			t.Errorf("Do(%d) = %+v, %d; want %d", core, notes, code, want)
		}
		if notes, code := fault.Again(r, core); len(notes) != 0 || code != want {
			t.Errorf("Again(%d) = %+v, %d; want %d", core, notes, code, want)
		}
		if !equal(r.View(), before) {
			t.Error("an error changed something")
		}
	}
	for _, core := range []int{2, -1, math.MinInt, math.MaxInt} {
		fails(core, api.ErrRange)
	}
	fails(1, api.ErrIdle)
	for _, state := range []int{api.Inactive, api.Sending, api.Receiving, api.Replying} {
		r.State(1, state)
		fails(0, api.ErrIdle)
	}
	r.State(1, api.Ready)
	before := r.View()
	if notes, code := fault.Again(r, 0); len(notes) != 0 || code != api.ErrArg {
		t.Errorf("Again without a Retry: %+v, %d", notes, code)
	}
	if !equal(r.View(), before) {
		t.Error("an error changed something")
	}
	if notes, code := fault.Do(nil, -1, load(0)); len(notes) != 0 || code != api.ErrNil {
		t.Errorf("Do of a nil realm: %+v, %d", notes, code)
	}
	if notes, code := fault.Again(nil, -1); len(notes) != 0 || code != api.ErrNil {
		t.Errorf("Again of a nil realm: %+v, %d", notes, code)
	}
}

func TestP27_1NoPager(t *testing.T) {
	for i := range 4 {
		r := fixture(t)
		switch i {
		case 1:
			pager(t, r, api.Read)
		case 2:
			pager(t, r, api.Read|api.Grant)
		case 3:
			is(t, "Root", r.Hold().Root(at(1, api.SlotPager), api.Cap{Kind: api.KindThread, Obj: 2}), api.OK)
		}
		r.State(2, api.Ready)
		if _, code := ipc.Recv(r, 2, at(6, 0), none); code != api.OK {
			t.Fatal(code)
		}
		does(t, r, 0, store(8, 5), faulted(api.FaultRights, 8, true))
		record(t, r, api.Thread{ID: 1, Give: none, In: none})
		record(t, r, api.Thread{ID: 2, State: api.Receiving, Give: none, In: none, Wait: end})
		if v, _ := r.Mem().Load(13*64 + 8); v != 0 {
			t.Error("a fault changed memory")
		}
	}
}

func TestP27_1EveryFault(t *testing.T) {
	for _, x := range []struct {
		access api.Access
		kind   int
	}{{load(32768), api.FaultRange}, {store(math.MaxUint64, 4), api.FaultRange}, {load(9), api.FaultAlign}, {load(128), api.FaultMap}, {store(4096, 7), api.FaultMap}, {store(16, 7), api.FaultRights}} {
		write := uint64(0)
		if x.access.Write {
			write = 1
		}
		msg := [4]uint64{uint64(x.kind), x.access.Va, write, 0}
		retry := x.access
		retry.Has = true

		r := fixture(t)
		pager(t, r, 7)
		if _, code := ipc.Recv(r, 2, at(6, 0), 5); code != api.OK {
			t.Fatal(code)
		}
		does(t, r, 0, x.access, faulted(x.kind, x.access.Va, x.access.Write), api.Note{Thread: 2, Msg: msg, Badge: 3})
		record(t, r, api.Thread{ID: 1, State: api.Replying, Give: none, In: none, Faulted: true, Retry: retry})
		record(t, r, api.Thread{ID: 2, State: api.Ready, Give: none, In: none, Msg: msg, Badge: 3, Caller: 1})

		r = fixture(t)
		pager(t, r, api.Write)
		does(t, r, 0, x.access, faulted(x.kind, x.access.Va, x.access.Write))
		record(t, r, api.Thread{ID: 1, State: api.Sending, Give: none, In: none, Faulted: true, Retry: retry, Out: msg, OutBadge: 3, Wait: end})
		if list, sends := r.Ends().List(end); !slices.Equal(list, []int{1}) || !sends {
			t.Errorf("%v wait, to send: %v", list, sends)
		}
		notes, code := ipc.Recv(r, 2, at(6, 0), none)
		if !slices.Equal(notes, []api.Note{{Thread: 2, Msg: msg, Badge: 3}}) || code != api.OK {
			t.Errorf("the pager is told %+v, %d", notes, code)
		}
		record(t, r, api.Thread{ID: 1, State: api.Replying, Give: none, In: none, Faulted: true, Retry: retry})
		record(t, r, api.Thread{ID: 2, State: api.Ready, Give: none, In: none, Msg: msg, Badge: 3, Caller: 1})
	}
}

func TestP27_Example(t *testing.T) {
	r := fixture(t)
	is(t, "Set", r.Cores().Set(0, -1, 0), api.OK)
	pager(t, r, 7)
	if _, code := ipc.Recv(r, 2, at(6, 0), none); code != api.OK {
		t.Fatal(code)
	}
	does(t, r, 0, load(64), faulted(api.FaultSpace, 64, false), api.Note{Thread: 2, Msg: [4]uint64{3, 64, 0, 0}, Badge: 3})
}

func TestP27_1LoadsKeepNoValue(t *testing.T) {
	r := fixture(t)
	pager(t, r, 7)
	does(t, r, 0, api.Access{Va: 128, Value: 9}, faulted(api.FaultMap, 128, false))
	rec, _ := r.Threads().Get(1)
	if rec.Retry != (api.Access{Has: true, Va: 128}) {
		t.Errorf("Retry = %+v", rec.Retry)
	}
}

func TestP27_1CallsStays(t *testing.T) {
	for _, calls := range []bool{false, true} {
		r := fixture(t)
		pager(t, r, 7)
		rec, _ := r.Threads().Get(1)
		rec.Calls = calls
		r.Threads().Set(rec)
		does(t, r, 0, load(128), faulted(api.FaultMap, 128, false))
		if rec, _ = r.Threads().Get(1); rec.Calls != calls {
			t.Errorf("Calls became %v", rec.Calls)
		}
	}
}

func TestP27_1PagerWithACaller(t *testing.T) {
	r := fixture(t)
	pager(t, r, 7)
	ipc.Recv(r, 2, at(6, 0), none)
	if _, code := ipc.Send(r, 3, at(6, 0), [4]uint64{}, none, true); code != api.OK {
		t.Fatal(code)
	}
	ipc.Recv(r, 2, at(6, 0), none)
	does(t, r, 0, load(128), faulted(api.FaultMap, 128, false), api.Note{Thread: 2, Msg: [4]uint64{4, 128, 0, 0}, Badge: 3})
	record(t, r, api.Thread{ID: 3, Give: none, In: none})
}

func TestP27_23Again(t *testing.T) {
	r := fixture(t)
	pager(t, r, 7)
	ipc.Recv(r, 2, at(6, 0), none)
	does(t, r, 0, store(136, 55), faulted(api.FaultMap, 136, true), api.Note{Thread: 2, Msg: [4]uint64{4, 136, 1, 0}, Badge: 3})
	reply := func() {
		t.Helper()
		if notes, code := ipc.Reply(r, 2, [4]uint64{9}); !slices.Equal(notes, []api.Note{{Thread: 2}}) || code != api.OK {
			t.Errorf("Reply: %+v, %d", notes, code)
		}
	}
	reply()
	retry := api.Access{Has: true, Write: true, Va: 136, Value: 55}
	record(t, r, api.Thread{ID: 1, State: api.Ready, Give: none, In: none, Retry: retry})
	// Nothing was mapped: the same access faults again.
	again(t, r, 0, faulted(api.FaultMap, 136, true))
	record(t, r, api.Thread{ID: 1, State: api.Sending, Give: none, In: none, Faulted: true, Retry: retry, Out: [4]uint64{4, 136, 1, 0}, OutBadge: 3, Wait: end})
	ipc.Recv(r, 2, at(6, 0), none)
	reply()
	r.Mem().Store(784, 0xf0f)
	again(t, r, 0, api.Note{Thread: 1})
	record(t, r, api.Thread{ID: 1, State: api.Ready, Give: none, In: none})
	if v, _ := r.Mem().Load(15*64 + 8); v != 55 {
		t.Errorf("the stored word: %d", v)
	}
	if _, code := fault.Again(r, 0); code != api.ErrArg {
		t.Errorf("Again after that: %d", code)
	}
}

func TestP27_2AgainALoad(t *testing.T) {
	r := fixture(t)
	rec, _ := r.Threads().Get(1)
	rec.Retry = api.Access{Has: true, Va: 72}
	r.Threads().Set(rec)
	again(t, r, 0, api.Note{Thread: 1, Value: 42})
	record(t, r, api.Thread{ID: 1, State: api.Ready, Give: none, In: none})
}
