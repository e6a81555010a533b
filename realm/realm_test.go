package realm_test

import (
	"fmt"
	"math"
	"slices"
	"testing"

	"seisin/api"
	"seisin/realm"
)

// equal compares two values as they are printed, so that a list that is nil
// and one that is empty are the same.
func equal(a, b any) bool { return fmt.Sprintf("%+v", a) == fmt.Sprintf("%+v", b) }

var far = []int{math.MinInt, -1, 1 << 40, math.MaxInt}

func at(node, index int) api.Slot { return api.Slot{Node: node, Index: index} }

func is(t *testing.T, call string, code, want api.Errno) {
	t.Helper()
	if code != want {
		t.Errorf("%s: %d; want %d", call, code, want)
	}
}

func some(t *testing.T, frames, n int) *realm.Realm {
	t.Helper()
	r, code := realm.New(frames, n)
	if r == nil || code != api.OK {
		t.Fatalf("New(%d, %d): %d", frames, n, code)
	}
	return r
}

func makes(t *testing.T, r *realm.Realm, kind, size, first, id int) {
	t.Helper()
	if got, code := r.Make(kind, size, first); got != id || code != api.OK {
		t.Fatalf("Make(%d, %d, %d) = %d, %d; want %d", kind, size, first, got, code, id)
	}
}

func record(t *testing.T, r *realm.Realm, want api.Thread) {
	t.Helper()
	if got, ok := r.Threads().Get(want.ID); got != want || !ok {
		t.Errorf("the thread %d is %+v, %v; want %+v", want.ID, got, ok, want)
	}
}

func put(t *testing.T, r *realm.Realm, rec api.Thread) {
	t.Helper()
	is(t, "Set of a record", r.Threads().Set(rec), api.OK)
}

func fresh(id int) api.Thread { return api.Thread{ID: id, Give: 4096, In: 4096} }

func TestP23_1New(t *testing.T) {
	for _, n := range append([]int{0, 65}, far...) {
		if r, code := realm.New(n, 1); r != nil || code != api.ErrRange {
			t.Errorf("New(%d, 1): %d", n, code)
		}
	}
	for _, n := range append([]int{0, 4}, far...) {
		if r, code := realm.New(8, n); r != nil || code != api.ErrRange {
			t.Errorf("New(8, %d): %d", n, code)
		}
	}
	for n := 1; n <= 3; n++ {
		r := some(t, 60+n, n)
		if r.Mem().Frames() != 60+n || r.Cores().Len() != n || r.Arena().Next(59+n) != 60+n || r.Arena().Next(60+n) != 0 {
			t.Errorf("the parts of New(%d, %d)", 60+n, n)
		}
		if v := r.View(); !equal(v.Cores, make([]int, n)) || len(v.Objects)+len(v.Caps)+len(v.Tree)+len(v.Threads)+len(v.Queue) != 0 || v.Pools != [8]api.Pool{} {
			t.Errorf("View = %+v", v)
		}
	}
}

func TestP23_1Make(t *testing.T) {
	for _, x := range []struct{ kind, size, frames, slots int }{{api.KindUntyped, 3, 3, 0}, {api.KindNode, 1, 1, 2}, {api.KindNode, 2, 1, 4}, {api.KindNode, 3, 2, 8}, {api.KindNode, 4, 4, 16}, {api.KindFrame, 0, 1, 0}, {api.KindTable, 0, 1, 0}, {api.KindRoot, 0, 1, 0}, {api.KindPool, 0, 1, 0}, {api.KindEndpoint, 0, 1, 0}, {api.KindThread, 0, 1, 3}} {
		r := some(t, 8, 1)
		for a := uint64(0); a < 512; a += 8 {
			r.Mem().Store(a, 5)
		}
		makes(t, r, x.kind, x.size, 2, 3)
		for a := uint64(0); a < 512; a += 8 {
			f := int(a / 64)
			cleared := x.kind != api.KindUntyped && f >= 2 && f < 2+x.frames
			if v, _ := r.Mem().Load(a); (v == 0) != cleared {
				t.Errorf("Make of kind %d: the word at %d is %d", x.kind, a, v)
			}
		}
		if o, ok := r.Arena().Get(3); !ok || o != (api.Object{ID: 3, Kind: x.kind, Size: x.size, First: 2, Frames: x.frames}) {
			t.Errorf("Make of kind %d: %+v", x.kind, o)
		}
		if r.Hold().Slots().Size(3) != x.slots {
			t.Errorf("Make of kind %d: %d slots", x.kind, r.Hold().Slots().Size(3))
		}
		if rec, ok := r.Threads().Get(3); ok != (x.kind == api.KindThread) || ok && rec != fresh(3) {
			t.Errorf("Make of kind %d: the thread %+v", x.kind, rec)
		}
		if (r.Ends().Add(3) == api.ErrFull) != (x.kind == api.KindEndpoint) {
			t.Errorf("Make of kind %d: an endpoint", x.kind)
		}
		if r.Queue().Has(3) {
			t.Error("a thread that was made is in the queue")
		}
	}
}

func TestP23_1MakeErrors(t *testing.T) {
	r := some(t, 4, 1)
	r.Mem().Store(0, 5)
	r.Mem().Store(64, 6)
	makes(t, r, api.KindFrame, 0, 1, 2)
	r.Mem().Store(64, 6)
	before := r.View()
	for _, x := range []struct {
		kind, size, first int
		want              api.Errno
	}{{api.KindFrame, 1, 0, api.ErrArg}, {api.KindControl, 0, 0, api.ErrArg}, {99, 0, 0, api.ErrArg}, {api.KindFrame, 0, 4, api.ErrRange}, {api.KindThread, 0, -1, api.ErrRange}, {api.KindThread, 0, 1, api.ErrBusy}, {api.KindNode, 3, 0, api.ErrBusy}, {api.KindUntyped, 5, 0, api.ErrRange}} {
		if id, code := r.Make(x.kind, x.size, x.first); id != 0 || code != x.want {
			t.Errorf("Make(%d, %d, %d) = %d, %d; want %d", x.kind, x.size, x.first, id, code, x.want)
		}
	}
	if !equal(r.View(), before) {
		t.Error("a failed Make changed the view")
	}
	for a, want := range map[uint64]uint64{0: 5, 64: 6} {
		if v, _ := r.Mem().Load(a); v != want {
			t.Errorf("a failed Make changed the word at %d", a)
		}
	}
}

func TestP23_1Unmake(t *testing.T) {
	r := some(t, 16, 1)
	makes(t, r, api.KindThread, 0, 0, 1)
	makes(t, r, api.KindNode, 2, 1, 2)
	makes(t, r, api.KindEndpoint, 0, 2, 3)
	makes(t, r, api.KindUntyped, 4, 3, 4)
	makes(t, r, api.KindThread, 0, 7, 8)
	for _, id := range append([]int{0, 5, 65}, far...) {
		is(t, "Unmake of nothing", r.Unmake(id), api.ErrArg)
	}
	is(t, "Root", r.Hold().Root(at(2, 1), api.Cap{Kind: api.KindEndpoint, Obj: 3, Rights: 7}), api.OK)
	is(t, "Copy", r.Hold().Copy(at(2, 1), at(1, 2), 7), api.OK)
	is(t, "State", r.State(1, api.Ready), api.OK)
	waiting := fresh(8)
	waiting.State, waiting.Wait = api.Receiving, 3
	put(t, r, waiting)
	is(t, "Wait", r.Ends().Wait(3, 8, false), api.OK)
	before := r.View()
	is(t, "Unmake of a used node", r.Unmake(2), api.ErrBusy)
	is(t, "Unmake of a used thread", r.Unmake(1), api.ErrBusy)
	if !equal(r.View(), before) {
		t.Error("a failed Unmake changed the view")
	}
	r.Hold().Clear(at(1, 2))
	is(t, "Unmake of a thread", r.Unmake(1), api.OK)
	if _, ok := r.Threads().Get(1); ok || r.Queue().Has(1) || r.Hold().Slots().Size(1) != 0 {
		t.Error("Unmake left something of a thread")
	}
	is(t, "Unmake again", r.Unmake(1), api.ErrArg)
	is(t, "Unmake of an endpoint", r.Unmake(3), api.OK)
	if list, _ := r.Ends().List(3); len(list) != 0 || r.Ends().Add(3) != api.OK {
		t.Error("Unmake left the endpoint")
	}
	record(t, r, waiting)
	is(t, "Unmake of an untyped", r.Unmake(4), api.OK)
	r.Hold().Clear(at(2, 1))
	is(t, "Unmake of a node", r.Unmake(2), api.OK)
	if r.Hold().Slots().Size(2) != 0 {
		t.Error("Unmake left the slots of a node")
	}
	if got := r.Arena().All(); len(got) != 1 || got[0].ID != 8 {
		t.Errorf("objects: %+v", got)
	}
}

func TestP23_2State(t *testing.T) {
	r := some(t, 8, 1)
	makes(t, r, api.KindThread, 0, 0, 1)
	makes(t, r, api.KindThread, 0, 1, 2)
	rec := fresh(1)
	rec.Prio = 5
	put(t, r, rec)
	queue := func(want ...int) {
		t.Helper()
		if got := r.Queue().All(); !slices.Equal(got, want) {
			t.Errorf("queue %v; want %v", got, want)
		}
	}
	for _, id := range append([]int{0, 3}, far...) {
		is(t, "State of no thread", r.State(id, api.Ready), api.ErrArg)
	}
	for _, state := range append([]int{5}, far...) {
		is(t, "no such state", r.State(1, state), api.ErrArg)
		is(t, "no such state", r.State(9, state), api.ErrArg)
	}
	queue()
	is(t, "State", r.State(2, api.Ready), api.OK)
	is(t, "State", r.State(1, api.Ready), api.OK)
	queue(1, 2)
	makes(t, r, api.KindThread, 0, 2, 3)
	is(t, "State", r.State(3, api.Ready), api.OK)
	queue(1, 2, 3)
	is(t, "State again", r.State(2, api.Ready), api.OK)
	queue(1, 2, 3)
	is(t, "no such state", r.State(1, 5), api.ErrArg)
	queue(1, 2, 3)
	for _, state := range []int{api.Inactive, api.Sending, api.Receiving, api.Replying} {
		is(t, "State", r.State(1, state), api.OK)
		queue(2, 3)
		want := rec
		want.State = state
		record(t, r, want)
		is(t, "State", r.State(1, api.Ready), api.OK)
		queue(1, 2, 3)
	}
}

func TestP23_2Halt(t *testing.T) {
	r := some(t, 8, 1)
	for i := range 4 {
		makes(t, r, api.KindThread, 0, i, i+1)
	}
	makes(t, r, api.KindEndpoint, 0, 5, 6)
	for _, id := range append([]int{0, 5, 6}, far...) {
		is(t, "Halt of no thread", r.Halt(id), api.ErrArg)
	}
	full := api.Thread{
		ID: 1, State: api.Sending, Prio: 3, Msg: [4]uint64{1, 2, 3, 4}, Badge: 5, Got: true, Caller: 4, Wait: 6, Out: [4]uint64{6, 7, 8, 9}, OutBadge: 10,
		Give: 11, In: 12, Calls: true, Faulted: true, Retry: api.Access{Has: true, Write: true, Va: 8, Value: 9},
	}
	halted := api.Thread{ID: 1, Prio: 3, Msg: [4]uint64{1, 2, 3, 4}, Badge: 5, Got: true, Caller: 4, Give: 4096, In: 4096}
	server := fresh(3)
	server.Caller = 1
	for state := api.Inactive; state <= api.Replying; state++ {
		full.State = state
		put(t, r, full)
		put(t, r, server)
		is(t, "State", r.State(1, state), api.OK)
		is(t, "Wait", r.Ends().Wait(6, 1, true), api.OK)
		is(t, "Wait", r.Ends().Wait(6, 2, true), api.OK)
		is(t, "Halt", r.Halt(1), api.OK)
		record(t, r, halted)
		if r.Queue().Has(1) {
			t.Error("a halted thread is in the queue")
		}
		if list, _ := r.Ends().List(6); !slices.Equal(list, []int{2}) {
			t.Errorf("after Halt, %v wait", list)
		}
		want := server
		if state == api.Replying {
			want.Caller = 0
		}
		record(t, r, want)
		r.Ends().Remove(2)
	}
	is(t, "Halt without a server", r.Halt(1), api.OK)
	record(t, r, halted)
	record(t, r, fresh(2))
}

func TestP23_2RunCurrent(t *testing.T) {
	r := some(t, 8, 3)
	makes(t, r, api.KindThread, 0, 0, 1)
	makes(t, r, api.KindThread, 0, 1, 2)
	makes(t, r, api.KindEndpoint, 0, 2, 3)
	current := func(want ...int) {
		t.Helper()
		if got := []int{r.Current(0), r.Current(1), r.Current(2)}; !slices.Equal(got, want) || !slices.Equal(r.View().Cores, want) {
			t.Errorf("current: %v; want %v", got, want)
		}
	}
	for _, core := range append([]int{3}, far...) {
		is(t, "Run on no core", r.Run(core, 1), api.ErrRange)
		is(t, "Run of nothing on no core", r.Run(core, 9), api.ErrRange)
		if r.Current(core) != 0 {
			t.Errorf("Current(%d) = %d", core, r.Current(core))
		}
	}
	for _, id := range append([]int{3, 4}, far...) {
		is(t, "Run of no thread", r.Run(0, id), api.ErrArg)
	}
	current(0, 0, 0)
	is(t, "Run", r.Run(0, 1), api.OK)
	is(t, "Run", r.Run(2, 2), api.OK)
	current(1, 0, 2)
	is(t, "Run again", r.Run(0, 1), api.OK)
	current(1, 0, 2)
	is(t, "Run elsewhere", r.Run(1, 1), api.OK)
	current(0, 1, 2)
	is(t, "Run of another one", r.Run(2, 1), api.OK)
	current(0, 0, 1)
	is(t, "Run of none", r.Run(1, 0), api.OK)
	current(0, 0, 1)
	is(t, "Run of none", r.Run(2, 0), api.OK)
	current(0, 0, 0)
}

// spaced is a realm with the threads 1 and 2, the root 3 (frame 2), the pool
// 4, and the node 6 (radix 4, from frame 5 on), whose slots 1 to 3 have the
// capabilities of the node, the root and the pool; nothing is bound.
func spaced(t *testing.T, n int) *realm.Realm {
	t.Helper()
	r := some(t, 16, n)
	makes(t, r, api.KindThread, 0, 0, 1)
	makes(t, r, api.KindThread, 0, 1, 2)
	makes(t, r, api.KindRoot, 0, 2, 3)
	makes(t, r, api.KindPool, 0, 3, 4)
	makes(t, r, api.KindNode, 4, 5, 6)
	for i, c := range []api.Cap{{Kind: api.KindNode, Obj: 6, Bits: 8}, {Kind: api.KindRoot, Obj: 3}, {Kind: api.KindPool, Obj: 4}} {
		is(t, "Root", r.Hold().Root(at(6, i+1), c), api.OK)
	}
	return r
}

func space(t *testing.T, r *realm.Realm, id, root, number, serial int, want bool) {
	t.Helper()
	if a, b, c, ok := r.Space(id); a != root || b != number || c != serial || ok != want {
		t.Errorf("Space(%d) = %d, %d, %d, %v; want %d, %d, %d, %v", id, a, b, c, ok, root, number, serial, want)
	}
}

func TestP23_3Space(t *testing.T) {
	r := spaced(t, 1)
	space(t, r, 1, 0, 0, 0, false)
	is(t, "Copy", r.Hold().Copy(at(6, 2), at(1, api.SlotSpace), 7), api.OK)
	space(t, r, 1, 0, 0, 0, false)
	r.Asids().AddPool(4)
	r.Asids().Assign(4, 3)
	space(t, r, 1, 3, 1, 1, true)
	space(t, r, 2, 0, 0, 0, false)
	for _, id := range append([]int{0, 3, 6, 9}, far...) {
		space(t, r, id, 0, 0, 0, false)
	}
	r.Asids().Unassign(3)
	space(t, r, 1, 0, 0, 0, false)
	r.Asids().Assign(4, 3)
	space(t, r, 1, 3, 1, 33, true)
	// A capability of another kind in the slot.
	r.Hold().Copy(at(6, 3), at(2, api.SlotSpace), 7)
	space(t, r, 2, 0, 0, 0, false)
	// A capability of another kind, with the number of a root.
	r.Hold().Clear(at(2, api.SlotSpace))
	r.Hold().Root(at(2, api.SlotSpace), api.Cap{Kind: api.KindTable, Obj: 3})
	space(t, r, 2, 0, 0, 0, false)
	// A root that is not in the arena.
	r.Arena().Drop(3)
	space(t, r, 1, 0, 0, 0, false)
}

func TestP23_3Find(t *testing.T) {
	r := spaced(t, 1)
	find := func(id, addr int, want api.Slot, code api.Errno) {
		t.Helper()
		if s, e := r.Find(id, addr); s != want || e != code {
			t.Errorf("Find(%d, %d) = %v, %d; want %v, %d", id, addr, s, e, want, code)
		}
	}
	find(1, 5, api.Slot{}, api.ErrLookup)
	is(t, "Copy", r.Hold().Copy(at(6, 1), at(1, api.SlotNodes), 7), api.OK)
	for addr := range 16 {
		find(1, addr, at(6, addr), api.OK)
	}
	find(1, 16, api.Slot{}, api.ErrLookup)
	find(1, 4095, api.Slot{}, api.ErrLookup)
	for _, addr := range []int{4096, 1 << 40, math.MaxInt, -1, math.MinInt} {
		find(1, addr, api.Slot{}, api.ErrRange)
		find(2, addr, api.Slot{}, api.ErrRange)
		find(9, addr, api.Slot{}, api.ErrArg)
	}
	find(2, 5, api.Slot{}, api.ErrLookup)
	for _, id := range append([]int{0, 3, 6}, far...) {
		find(id, 5, api.Slot{}, api.ErrArg)
	}
}

func TestP23_3Settle(t *testing.T) {
	r := spaced(t, 3)
	r.Asids().AddPool(4)
	r.Asids().Assign(4, 3)
	regs := func(core, root, number, current int) {
		t.Helper()
		a, b, code := r.Cores().Regs(core)
		if a != root || b != number || code != api.OK || r.Current(core) != current {
			t.Errorf("core %d: %d, %d of the thread %d; want %d, %d of %d", core, a, b, r.Current(core), root, number, current)
		}
	}
	is(t, "Run", r.Run(0, 1), api.OK)
	regs(0, -1, 0, 1)
	r.Settle()
	regs(0, -1, 0, 0)
	is(t, "State", r.State(1, api.Ready), api.OK)
	is(t, "State", r.State(2, api.Ready), api.OK)
	is(t, "Run", r.Run(0, 1), api.OK)
	is(t, "Run", r.Run(2, 2), api.OK)
	r.Settle()
	regs(0, -1, 0, 1)
	is(t, "Copy", r.Hold().Copy(at(6, 2), at(1, api.SlotSpace), 7), api.OK)
	is(t, "Copy", r.Hold().Copy(at(6, 2), at(2, api.SlotSpace), 7), api.OK)
	regs(0, -1, 0, 1)
	r.Settle()
	regs(0, 2, 1, 1)
	regs(1, -1, 0, 0)
	regs(2, 2, 1, 2)
	// A thread that is current on another core now.
	is(t, "Run", r.Run(1, 1), api.OK)
	r.Settle()
	regs(0, -1, 0, 0)
	regs(1, 2, 1, 1)
	r.Hold().Clear(at(1, api.SlotSpace))
	for _, state := range []int{api.Inactive, api.Sending, api.Receiving, api.Replying} {
		is(t, "Run", r.Run(2, 2), api.OK)
		is(t, "State", r.State(2, state), api.OK)
		r.Settle()
		regs(1, -1, 0, 1)
		regs(2, -1, 0, 0)
		is(t, "State", r.State(2, api.Ready), api.OK)
	}
	is(t, "Run", r.Run(2, 2), api.OK)
	r.Settle()
	regs(2, 2, 1, 2)
	r.Asids().Unassign(3)
	r.Settle()
	regs(2, -1, 0, 2)
	r.Asids().Assign(4, 3)
	r.Settle()
	regs(2, 2, 1, 2)
	r.Threads().Drop(2)
	r.Settle()
	regs(2, -1, 0, 0)
}

func TestP23_3View(t *testing.T) {
	r := spaced(t, 2)
	r.Asids().AddPool(4)
	r.Asids().Assign(4, 3)
	r.Hold().Copy(at(6, 2), at(1, api.SlotSpace), 7)
	r.State(2, api.Ready)
	r.State(1, api.Ready)
	r.Run(1, 2)
	v := r.View()
	if !equal(v.Objects, r.Arena().All()) || !equal(v.Caps, r.Hold().Used()) || !equal(v.Tree, r.Hold().Tree()) || !equal(v.Threads, r.Threads().All()) || v.Pools != r.Asids().Pools() || !slices.Equal(v.Cores, []int{0, 2}) || !slices.Equal(v.Queue, []int{2, 1}) {
		t.Errorf("View = %+v", v)
	}
	if len(v.Objects) != 5 || len(v.Caps) != 4 || len(v.Tree) != 4 || len(v.Threads) != 2 {
		t.Errorf("View = %+v", v)
	}
	v.Cores[0], v.Queue[0], v.Objects[0].ID, v.Threads[0].Prio, v.Caps[0].Slot.Node, v.Tree[0].Depth = 9, 9, 9, 9, 9, 9
	w := r.View()
	if w.Cores[0] == 9 || w.Queue[0] == 9 || w.Objects[0].ID == 9 || w.Threads[0].Prio == 9 || w.Caps[0].Slot.Node == 9 || w.Tree[0].Depth == 9 {
		t.Error("View shares memory with the realm")
	}
}

func TestP23_Parts(t *testing.T) {
	r := some(t, 8, 1)
	if r.Mem() != r.Mem() || r.Cores() != r.Cores() || r.Arena() != r.Arena() || r.Hold() != r.Hold() || r.Asids() != r.Asids() || r.Threads() != r.Threads() || r.Queue() != r.Queue() || r.Ends() != r.Ends() {
		t.Error("a part is not the part itself")
	}
	if r.Mem() == nil || r.Cores() == nil || r.Arena() == nil || r.Hold() == nil || r.Asids() == nil || r.Threads() == nil || r.Queue() == nil || r.Ends() == nil {
		t.Error("a part is nil")
	}
}

func TestNilRealm(t *testing.T) {
	var r *realm.Realm
	if r.Mem() != nil || r.Cores() != nil || r.Arena() != nil || r.Hold() != nil || r.Asids() != nil || r.Threads() != nil || r.Queue() != nil || r.Ends() != nil {
		t.Error("a part of a nil realm")
	}
	if id, code := r.Make(99, 0, 0); id != 0 || code != api.ErrNil {
		t.Errorf("Make = %d, %d", id, code)
	}
	if s, code := r.Find(1, -1); s != (api.Slot{}) || code != api.ErrNil {
		t.Errorf("Find = %v, %d", s, code)
	}
	for i, code := range []api.Errno{r.Unmake(0), r.State(0, 9), r.Halt(0), r.Run(-1, -1)} {
		is(t, "call "+string(rune('0'+i)), code, api.ErrNil)
	}
	space(t, r, 1, 0, 0, 0, false)
	r.Settle()
	if r.Current(0) != 0 || !equal(r.View(), api.View{}) {
		t.Error("a nil realm has something")
	}
}
