package kernel_test

import (
	"fmt"
	"math"
	"slices"
	"testing"

	"seisin/api"
	"seisin/decode"
	"seisin/kernel"
	"seisin/realm"
	"seisin/vspace"
)

// equal compares two values as they are printed, so that a list that is nil
// and one that is empty are the same.
func equal(a, b any) bool { return fmt.Sprintf("%+v", a) == fmt.Sprintf("%+v", b) }

func slot(node, index int) api.Slot { return api.Slot{Node: node, Index: index} }

func is(t *testing.T, call string, code, want api.Errno) {
	t.Helper()
	if code != want {
		t.Errorf("%s: %d; want %d", call, code, want)
	}
}

const none = api.NoAddr

// The addresses of the fixture's capabilities, in its node 7.
const (
	thread2 = iota
	node7
	thread1
	untyped
	root
	control
	pool
	end
	empty
)

// fixture has the threads 1 and 2 (Ready, 1 current on core 0), the node 7 of
// radix 4, the root 11, the pool 12, the endpoint 13, and the untyped 16 of 10
// frames from frame 15 on. Both threads have the node, at addresses of 12 bits.
func fixture(t *testing.T) *kernel.Kernel {
	t.Helper()
	r, code := realm.New(30, 2)
	if code != api.OK {
		t.Fatal(code)
	}
	for _, x := range []struct{ kind, size, first int }{{api.KindThread, 0, 0}, {api.KindThread, 0, 1}, {api.KindNode, 4, 6}, {api.KindRoot, 0, 10}, {api.KindPool, 0, 11}, {api.KindEndpoint, 0, 12}, {api.KindUntyped, 10, 15}} {
		if _, code := r.Make(x.kind, x.size, x.first); code != api.OK {
			t.Fatal(code)
		}
	}
	for i, c := range map[int]api.Cap{
		thread2: {Kind: api.KindThread, Obj: 2}, node7: {Kind: api.KindNode, Obj: 7, Bits: 8}, thread1: {Kind: api.KindThread, Obj: 1},
		untyped: {Kind: api.KindUntyped, Obj: 16}, root: {Kind: api.KindRoot, Obj: 11}, control: {Kind: api.KindControl},
		pool: {Kind: api.KindPool, Obj: 12}, end: {Kind: api.KindEndpoint, Obj: 13, Rights: 7},
	} {
		is(t, "Root", r.Hold().Root(slot(7, i), c), api.OK)
	}
	for id := 1; id <= 2; id++ {
		is(t, "Copy", r.Hold().Copy(slot(7, node7), slot(id, api.SlotNodes), 7), api.OK)
		is(t, "State", r.State(id, api.Ready), api.OK)
	}
	is(t, "Run", r.Run(0, 1), api.OK)
	k, code := kernel.New(r)
	if k == nil || code != api.OK || k.Realm() != r {
		t.Fatalf("New: %d", code)
	}
	return k
}

func call(op uint64, args ...uint64) api.Event {
	e := api.Event{Kind: api.EvCall, Call: api.Call{Op: op}}
	copy(e.Call.Args[:], args)
	return e
}

func plain(id int) api.Note { return api.Note{Thread: id} }

func does(t *testing.T, k *kernel.Kernel, e api.Event, want ...api.Note) {
	t.Helper()
	if s := k.Do(e); s.Code != api.OK || !slices.Equal(s.Notes, want) {
		t.Errorf("Do(%+v) = %+v; want %+v", e, s, want)
	}
}

// ok runs a call of thread 1 of which it is told nothing but its end.
func ok(t *testing.T, k *kernel.Kernel, op uint64, args ...uint64) {
	t.Helper()
	does(t, k, call(op, args...), plain(1))
}

func memory(r *realm.Realm) [][]uint64 {
	var all [][]uint64
	for f := range r.Mem().Frames() {
		w, _ := r.Mem().Words(f)
		all = append(all, w)
	}
	return all
}

// fails runs a call of thread 1 that ends with an error and changes nothing.
func fails(t *testing.T, k *kernel.Kernel, want api.Errno, op uint64, args ...uint64) {
	t.Helper()
	view, words := k.Realm().View(), memory(k.Realm())
	does(t, k, call(op, args...), api.Note{Thread: 1, Code: want})
	if !equal(k.Realm().View(), view) || !equal(memory(k.Realm()), words) {
		t.Errorf("the call %d %v returned %d and changed something", op, args, want)
	}
}

// refuses runs an event that returns an error and changes nothing.
func refuses(t *testing.T, k *kernel.Kernel, want api.Errno, e api.Event) {
	t.Helper()
	view, words := k.Realm().View(), memory(k.Realm())
	if s := k.Do(e); s.Code != want || len(s.Notes) != 0 {
		t.Errorf("Do(%+v) = %+v; want %d", e, s, want)
	}
	if !equal(k.Realm().View(), view) || !equal(memory(k.Realm()), words) {
		t.Errorf("Do(%+v) returned %d and changed something", e, want)
	}
}

func has(t *testing.T, k *kernel.Kernel, s api.Slot, want api.Cap) {
	t.Helper()
	if c, code := k.Realm().Hold().Get(s); c != want || code != api.OK {
		t.Errorf("%v has %+v, %d; want %+v", s, c, code, want)
	}
}

func record(t *testing.T, k *kernel.Kernel, id int) api.Thread {
	t.Helper()
	rec, ok := k.Realm().Threads().Get(id)
	if !ok {
		t.Errorf("there is no thread %d", id)
	}
	return rec
}

func TestP29_1New(t *testing.T) {
	if k, code := kernel.New(nil); k != nil || code != api.ErrNil {
		t.Errorf("New(nil): %d", code)
	}
	var k *kernel.Kernel
	if k.Realm() != nil || !equal(k.Do(call(api.OpYield)), api.Step{}) {
		t.Error("a nil kernel does something")
	}
	if notes, code := k.Order(1, api.Order{Op: api.OpYield}); len(notes) != 0 || code != api.ErrNil {
		t.Errorf("Order of a nil kernel: %+v, %d", notes, code)
	}
}

func TestP29_1Pick(t *testing.T) {
	k := fixture(t)
	r := k.Realm()
	pick := func(core, id int) api.Event { return api.Event{Kind: api.EvPick, Core: core, Thread: id} }
	for _, core := range []int{2, -1, math.MinInt, math.MaxInt} {
		refuses(t, k, api.ErrRange, pick(core, 1))
		refuses(t, k, api.ErrRange, pick(core, 99))
	}
	for _, id := range []int{3, 7, 99, -1, math.MinInt} {
		refuses(t, k, api.ErrArg, pick(0, id))
	}
	does(t, k, pick(1, 2))
	does(t, k, pick(1, 1))
	if r.Current(0) != 0 || r.Current(1) != 1 {
		t.Errorf("current: %d, %d", r.Current(0), r.Current(1))
	}
	does(t, k, pick(0, 0))
	if r.Current(0) != 1 || r.Current(1) != 0 {
		t.Errorf("current: %d, %d", r.Current(0), r.Current(1))
	}
	is(t, "Halt", r.Halt(2), api.OK)
	refuses(t, k, api.ErrBusy, pick(1, 2))
	is(t, "Halt", r.Halt(1), api.OK)
	r.Settle()
	refuses(t, k, api.ErrIdle, pick(0, 0))
	refuses(t, k, api.ErrBusy, pick(0, 1))
	refuses(t, k, api.ErrRange, pick(2, 0))
}

func TestP29_1PickTheFirst(t *testing.T) {
	k := fixture(t)
	does(t, k, api.Event{Kind: api.EvPick, Core: 1})
	if k.Realm().Current(1) != 1 {
		t.Errorf("current: %d", k.Realm().Current(1))
	}
	does(t, k, api.Event{Kind: api.EvPick, Core: 0, Thread: 1})
	ok(t, k, api.OpPrio, thread2, 5)
	does(t, k, api.Event{Kind: api.EvPick, Core: 1})
	if k.Realm().Current(1) != 2 {
		t.Errorf("current: %d", k.Realm().Current(1))
	}
}

func TestP29_1OtherEvents(t *testing.T) {
	k := fixture(t)
	for _, kind := range []int{0, 7, -1, math.MinInt, math.MaxInt} {
		refuses(t, k, api.ErrArg, api.Event{Kind: kind})
		refuses(t, k, api.ErrArg, api.Event{Kind: kind, Core: 9})
	}
	for _, kind := range []int{api.EvCall, api.EvLoad, api.EvStore} {
		for _, core := range []int{2, -1, math.MinInt, math.MaxInt} {
			refuses(t, k, api.ErrRange, api.Event{Kind: kind, Core: core})
		}
		refuses(t, k, api.ErrIdle, api.Event{Kind: kind, Core: 1})
	}
	for _, n := range []int{-1, math.MinInt, math.MaxInt} {
		refuses(t, k, api.ErrRange, api.Event{Kind: api.EvEvict, Core: n})
		refuses(t, k, api.ErrRange, api.Event{Kind: api.EvEvict, Set: n})
		refuses(t, k, api.ErrRange, api.Event{Kind: api.EvEvict, Way: n})
		refuses(t, k, api.ErrRange, api.Event{Kind: api.EvPrefetch, Core: n})
		refuses(t, k, api.ErrRange, api.Event{Kind: api.EvPrefetch, Page: n})
	}
	refuses(t, k, api.ErrRange, api.Event{Kind: api.EvEvict, Core: 2})
	refuses(t, k, api.ErrRange, api.Event{Kind: api.EvEvict, Set: 4})
	refuses(t, k, api.ErrRange, api.Event{Kind: api.EvEvict, Way: 2})
	refuses(t, k, api.ErrRange, api.Event{Kind: api.EvPrefetch, Core: 2})
	refuses(t, k, api.ErrRange, api.Event{Kind: api.EvPrefetch, Page: 512})
	does(t, k, api.Event{Kind: api.EvEvict, Core: 1, Set: 3, Way: 1})
	does(t, k, api.Event{Kind: api.EvPrefetch, Core: 1, Page: 511})
}

// space gives thread 1 a space in which page 0 is a frame at address 10.
func space(t *testing.T, k *kernel.Kernel) {
	t.Helper()
	ok(t, k, api.OpRetype, untyped, api.KindTable, 0, node7, 8, 2)
	ok(t, k, api.OpRetype, untyped, api.KindFrame, 0, node7, 10, 2)
	ok(t, k, api.OpEnable, control, pool)
	ok(t, k, api.OpAssign, pool, root)
	ok(t, k, api.OpBind, thread1, api.SlotSpace, root)
	ok(t, k, api.OpMapTable, 8, root, 0)
	ok(t, k, api.OpMapTable, 9, root, 0)
	ok(t, k, api.OpMapFrame, 10, root, 0, 3)
}

func TestP29_1Accesses(t *testing.T) {
	k := fixture(t)
	space(t, k)
	does(t, k, api.Event{Kind: api.EvStore, Va: 8, Value: 7}, plain(1))
	does(t, k, api.Event{Kind: api.EvLoad, Va: 8, Value: 99}, api.Note{Thread: 1, Value: 7})
	does(t, k, api.Event{Kind: api.EvPrefetch, Page: 0})
	does(t, k, api.Event{Kind: api.EvEvict})
	if len(k.Realm().Cores().All(0)) != 0 {
		t.Error("the translation was not evicted")
	}
	does(t, k, api.Event{Kind: api.EvPrefetch, Page: 0})
	if all := k.Realm().Cores().All(0); len(all) != 1 || all[0].Page != 0 || all[0].Space != 1 {
		t.Errorf("prefetched: %+v", all)
	}
	ok(t, k, api.OpUnmapFrame, 10)
	does(t, k, api.Event{Kind: api.EvStore, Va: 8, Value: 7}, api.Note{Thread: 1, Code: api.ErrFault, Fault: api.Fault{Kind: api.FaultMap, Va: 8, Write: true}})
	if k.Realm().Current(0) != 0 || record(t, k, 1).State != api.Inactive {
		t.Error("a thread without a pager goes on")
	}
	if root, space, _ := k.Realm().Cores().Regs(0); root != -1 || space != 0 {
		t.Error("the realm is not settled")
	}
}

func TestP29_1Retry(t *testing.T) {
	k := fixture(t)
	ok(t, k, api.OpBind, thread1, api.SlotPager, end)
	does(t, k, api.Event{Kind: api.EvPick, Core: 1, Thread: 2})
	on1 := func(e api.Event) api.Event {
		e.Core = 1
		return e
	}
	does(t, k, on1(call(api.OpRecv, end, none)))
	fault := api.Note{Thread: 1, Code: api.ErrFault, Fault: api.Fault{Kind: api.FaultSpace, Va: 64}}
	told := api.Note{Thread: 2, Msg: [4]uint64{api.FaultSpace, 64}}
	does(t, k, api.Event{Kind: api.EvLoad, Va: 64}, fault, told)
	for _, e := range []api.Event{call(api.OpYield), {Kind: api.EvStore, Va: 1 << 40}, {Kind: api.EvLoad}, call(99)} {
		does(t, k, api.Event{Kind: api.EvPick, Core: 1, Thread: 2})
		does(t, k, on1(call(api.OpReply)), plain(2))
		does(t, k, on1(call(api.OpRecv, end, none)))
		does(t, k, api.Event{Kind: api.EvPick, Thread: 1})
		does(t, k, e, fault, told)
	}
}

func TestP29_1DecodeErrorsAreNotes(t *testing.T) {
	k := fixture(t)
	fails(t, k, api.ErrArg, 99)
	fails(t, k, api.ErrArg, 0)
	fails(t, k, api.ErrArg, api.OpYield, 1)
	fails(t, k, api.ErrArg, api.OpRetype, untyped, api.KindControl, 0, node7, 8, 1)
	fails(t, k, api.ErrRange, api.OpCopy, 3, 4096, 1)
	fails(t, k, api.ErrRange, api.OpRevoke, 3, 65)
}

func TestP29_2OrderErrors(t *testing.T) {
	k := fixture(t)
	order := func(id int, o api.Order, want api.Errno) {
		t.Helper()
		before := k.Realm().View()
		if notes, code := k.Order(id, o); len(notes) != 0 || code != want {
			t.Errorf("Order(%d, %+v) = %+v, %d; want %d", id, o, notes, code, want)
		}
		if !equal(k.Realm().View(), before) {
			t.Error("an error changed something")
		}
	}
	for _, id := range []int{0, 3, 7, -1, math.MinInt, math.MaxInt} {
		order(id, api.Order{Op: api.OpYield}, api.ErrArg)
	}
	for _, o := range []api.Order{{}, {Op: 24}, {Op: -1}, {Op: api.OpYield, A: 1}, {Op: api.OpYield, C: 1}, {Op: api.OpDelete, A: -1}, {Op: api.OpDelete, A: 4096}, {Op: api.OpRevoke, A: 3}, {Op: api.OpRetype, A: 3, B: 1, N: [3]int{3, 0, 8}}, {Op: api.OpPrio, N: [3]int{8}}} {
		order(1, o, api.ErrArg)
	}
	is(t, "Halt", k.Realm().Halt(2), api.OK)
	order(2, api.Order{Op: api.OpYield}, api.ErrArg)
	if notes, code := k.Order(1, api.Order{Op: api.OpCopy, A: root, B: empty, N: [3]int{7}}); !slices.Equal(notes, []api.Note{plain(1)}) || code != api.OK {
		t.Errorf("Order = %+v, %d", notes, code)
	}
	has(t, k, slot(7, empty), api.Cap{Kind: api.KindRoot, Obj: 11})
}

func TestP29_2Lookups(t *testing.T) {
	// An address that leads nowhere, as A and as B, for every Op that has it.
	const nowhere = 16
	for op := uint64(1); op <= 23; op++ {
		c := api.Call{Op: op, Args: [6]uint64{nowhere}}
		b := -1
		switch op {
		case api.OpRetype:
			c.Args = [6]uint64{nowhere, api.KindFrame, 0, node7, 8, 1}
			b = 3
		case api.OpRevoke:
			c.Args[1] = 1
		case api.OpCopy, api.OpMint, api.OpMove, api.OpSwap, api.OpMapTable, api.OpMapFrame, api.OpEnable, api.OpAssign:
			b = 1
		case api.OpBind:
			b = 2
		case api.OpReply, api.OpYield:
			continue
		}
		k := fixture(t)
		fails(t, k, api.ErrLookup, c.Op, c.Args[:]...)
		if _, code := decode.Decode(c); code != api.OK {
			t.Fatalf("the call %+v", c)
		}
		if b < 0 {
			continue
		}
		c.Args[0], c.Args[b] = empty, nowhere
		fails(t, k, api.ErrLookup, c.Op, c.Args[:]...)
	}
}

func TestP29_2Retype(t *testing.T) {
	for _, x := range []struct{ kind, size, frames int }{{api.KindUntyped, 2, 2}, {api.KindNode, 1, 1}, {api.KindNode, 3, 2}, {api.KindFrame, 0, 1}, {api.KindTable, 0, 1}, {api.KindRoot, 0, 1}, {api.KindPool, 0, 1}, {api.KindEndpoint, 0, 1}, {api.KindThread, 0, 1}} {
		k := fixture(t)
		r := k.Realm()
		for a := uint64(15 * 64); a < 25*64; a += 8 {
			r.Mem().Store(a, 5)
		}
		ok(t, k, api.OpRetype, untyped, uint64(x.kind), uint64(x.size), node7, 9, 3)
		for i := range 3 {
			first := 15 + i*x.frames
			want := api.Cap{Kind: x.kind, Obj: first + 1}
			if first == 15 {
				want.Obj += 64
			}
			switch x.kind {
			case api.KindFrame:
				want.Rights = 3
			case api.KindEndpoint:
				want.Rights = 7
			}
			has(t, k, slot(7, 9+i), want)
			if o, _ := r.Arena().Get(want.Obj); o != (api.Object{ID: want.Obj, Kind: x.kind, Size: x.size, First: first, Frames: x.frames}) {
				t.Errorf("the object %+v", o)
			}
			if v, _ := r.Mem().Load(uint64(first * 64)); (v == 0) != (x.kind != api.KindUntyped) {
				t.Errorf("kind %d: the first word of frame %d is %d", x.kind, first, v)
			}
		}
		// Each is inserted directly after the untyped.
		if got := r.Hold().Below(slot(7, untyped)); !slices.Equal(got, []api.Slot{slot(7, 11), slot(7, 10), slot(7, 9)}) {
			t.Errorf("below the untyped: %v", got)
		}
		if o, _ := r.Arena().Get(16); o.Mark != 3*x.frames {
			t.Errorf("the mark is %d", o.Mark)
		}
	}
}

func TestP29_2RetypeErrors(t *testing.T) {
	k := fixture(t)
	frames := func(want api.Errno, a, b, index, count uint64) {
		t.Helper()
		fails(t, k, want, api.OpRetype, a, api.KindFrame, 0, b, index, count)
	}
	for _, a := range []uint64{thread1, node7, root, control, end, empty} {
		frames(api.ErrKind, a, node7, 8, 1)
	}
	for _, b := range []uint64{thread1, untyped, root, control, end, empty} {
		frames(api.ErrKind, untyped, b, 8, 1)
	}
	fails(t, k, api.ErrNoMem, api.OpRetype, untyped, api.KindUntyped, 11, node7, 8, 1)
	fails(t, k, api.ErrNoMem, api.OpRetype, untyped, api.KindNode, 4, node7, 8, 3)
	fails(t, k, api.ErrNoMem, api.OpRetype, untyped, api.KindNode, 4, node7, 0, 3)
	frames(api.ErrRange, untyped, node7, 13, 4)
	frames(api.ErrRange, untyped, node7, 15, 2)
	frames(api.ErrFull, untyped, node7, end, 2)
	frames(api.ErrFull, untyped, node7, 6, 1)
	frames(api.ErrFull, untyped, node7, 0, 4)
	ok(t, k, api.OpRetype, untyped, api.KindFrame, 0, node7, 12, 4)
	frames(api.ErrFull, untyped, node7, 11, 2)
	// A smaller node, at addresses of its own.
	ok(t, k, api.OpRetype, untyped, api.KindNode, 2, node7, 8, 1)
	frames(api.ErrRange, untyped, 8, 3, 2)
	frames(api.ErrRange, untyped, 8, 4, 1)
	ok(t, k, api.OpRetype, untyped, api.KindFrame, 0, 8, 0, 4)
	fails(t, k, api.ErrNoMem, api.OpRetype, untyped, api.KindFrame, 0, node7, 9, 2)
	ok(t, k, api.OpRetype, untyped, api.KindFrame, 0, node7, 9, 1)
	fails(t, k, api.ErrNoMem, api.OpRetype, untyped, api.KindFrame, 0, node7, 10, 1)
	ok(t, k, api.OpRevoke, untyped, 64)
	// Nothing is below the untyped any more, so its memory is all there again.
	ok(t, k, api.OpRetype, untyped, api.KindUntyped, 10, node7, 8, 1)
	if o, _ := k.Realm().Arena().Get(16); o.Mark != 10 {
		t.Errorf("the mark is %d", o.Mark)
	}
	// What is made of the inner untyped is made in the same frames.
	ok(t, k, api.OpRetype, 8, api.KindFrame, 0, node7, 9, 2)
	has(t, k, slot(7, 9), api.Cap{Kind: api.KindFrame, Obj: 16 + 64*3, Rights: 3})
}

func TestP29_2RetypeMark(t *testing.T) {
	k := fixture(t)
	ok(t, k, api.OpRetype, untyped, api.KindFrame, 0, node7, 8, 2)
	ok(t, k, api.OpDelete, 8)
	// One is left below, so the mark stays.
	ok(t, k, api.OpRetype, untyped, api.KindFrame, 0, node7, 8, 1)
	has(t, k, slot(7, 8), api.Cap{Kind: api.KindFrame, Obj: 18, Rights: 3})
	ok(t, k, api.OpDelete, 8)
	ok(t, k, api.OpDelete, 9)
	if o, _ := k.Realm().Arena().Get(16); o.Mark != 3 {
		t.Errorf("the mark is %d", o.Mark)
	}
	ok(t, k, api.OpRetype, untyped, api.KindFrame, 0, node7, 8, 1)
	has(t, k, slot(7, 8), api.Cap{Kind: api.KindFrame, Obj: 144, Rights: 3})
	if o, _ := k.Realm().Arena().Get(16); o.Mark != 1 {
		t.Errorf("the mark is %d", o.Mark)
	}
}

func TestP29_2RetypeNumbersRunOut(t *testing.T) {
	k := fixture(t)
	r := k.Realm()
	for r.Arena().Next(16) != 0 {
		id, code := r.Arena().Add(api.KindFrame, 0, 16)
		if code != api.OK {
			t.Fatal(code)
		}
		r.Arena().Drop(id)
	}
	fails(t, k, api.ErrFull, api.OpRetype, untyped, api.KindFrame, 0, node7, 8, 2)
	fails(t, k, api.ErrFull, api.OpRetype, untyped, api.KindFrame, 0, node7, 8, 4)
	ok(t, k, api.OpRetype, untyped, api.KindFrame, 0, node7, 8, 1)
}

func TestP29_2Capabilities(t *testing.T) {
	k := fixture(t)
	ok(t, k, api.OpCopy, end, 8, 3)
	has(t, k, slot(7, 8), api.Cap{Kind: api.KindEndpoint, Obj: 13, Rights: 3})
	fails(t, k, api.ErrFull, api.OpCopy, end, 8, 3)
	fails(t, k, api.ErrKind, api.OpCopy, untyped, 9, 3)
	fails(t, k, api.ErrEmpty, api.OpCopy, 9, 10, 3)
	ok(t, k, api.OpMint, 8, 9, 6, 77)
	has(t, k, slot(7, 9), api.Cap{Kind: api.KindEndpoint, Obj: 13, Rights: 2, Badge: 77})
	fails(t, k, api.ErrRights, api.OpMint, 9, 10, 6, 78)
	fails(t, k, api.ErrRange, api.OpMint, 8, 10, 6, 1<<24)
	ok(t, k, api.OpMint, node7, 10, 0, 0x8001)
	has(t, k, slot(7, 10), api.Cap{Kind: api.KindNode, Obj: 7, Guard: 1, Bits: 8})
	ok(t, k, api.OpMove, 9, 11)
	has(t, k, slot(7, 9), api.Cap{})
	has(t, k, slot(7, 11), api.Cap{Kind: api.KindEndpoint, Obj: 13, Rights: 2, Badge: 77})
	fails(t, k, api.ErrFull, api.OpMove, 11, 11)
	fails(t, k, api.ErrEmpty, api.OpMove, 9, 12)
	ok(t, k, api.OpSwap, 11, 9)
	ok(t, k, api.OpSwap, end, untyped)
	has(t, k, slot(7, untyped), api.Cap{Kind: api.KindEndpoint, Obj: 13, Rights: 7})
	ok(t, k, api.OpSwap, 12, 13)
	if got := k.Realm().Hold().Below(slot(7, untyped)); !slices.Equal(got, []api.Slot{slot(7, 8), slot(7, 9)}) {
		t.Errorf("below the endpoint: %v", got)
	}
	fails(t, k, api.ErrEmpty, api.OpDelete, 12)
	ok(t, k, api.OpDelete, 8)
	has(t, k, slot(7, 8), api.Cap{})
	fails(t, k, api.ErrEmpty, api.OpRevoke, 8, 1)
	ok(t, k, api.OpRevoke, untyped, 1)
	has(t, k, slot(7, 9), api.Cap{})
	ok(t, k, api.OpRevoke, untyped, 1)
}

func TestP29_2RevokeBudget(t *testing.T) {
	k := fixture(t)
	for i := range 3 {
		ok(t, k, api.OpCopy, end, uint64(8+i), 7)
	}
	budget := func(want ...api.Note) {
		t.Helper()
		does(t, k, call(api.OpRevoke, end, 1), want...)
	}
	budget(api.Note{Thread: 1, Code: api.ErrBudget})
	has(t, k, slot(7, 10), api.Cap{})
	if len(k.Realm().Hold().Below(slot(7, end))) != 2 {
		t.Error("one deletion was paid for")
	}
	budget(api.Note{Thread: 1, Code: api.ErrBudget})
	budget(plain(1))
	budget(plain(1))
}

func TestP29_2Spaces(t *testing.T) {
	k := fixture(t)
	fails(t, k, api.ErrKind, api.OpEnable, pool, pool)
	fails(t, k, api.ErrArg, api.OpAssign, pool, root)
	space(t, k)
	fails(t, k, api.ErrBusy, api.OpEnable, control, pool)
	fails(t, k, api.ErrMapped, api.OpAssign, pool, root)
	fails(t, k, api.ErrMapped, api.OpMapTable, 8, root, 4096)
	fails(t, k, api.ErrRange, api.OpMapTable, 8, root, 32768)
	fails(t, k, api.ErrFull, api.OpMapFrame, 11, root, 0, 3)
	fails(t, k, api.ErrRights, api.OpMapFrame, 11, root, 64, 4)
	fails(t, k, api.ErrAlign, api.OpMapFrame, 11, root, 8, 3)
	ok(t, k, api.OpMapFrame, 11, root, 64, 1)
	has(t, k, slot(7, 11), api.Cap{Kind: api.KindFrame, Obj: 19, Rights: 3, Serial: 1, Page: 1})
	ok(t, k, api.OpUnmapFrame, 11)
	has(t, k, slot(7, 11), api.Cap{Kind: api.KindFrame, Obj: 19, Rights: 3})
	fails(t, k, api.ErrKind, api.OpUnmapFrame, 8)
	ok(t, k, api.OpUnmapTable, 9)
	if c, _ := k.Realm().Hold().Get(slot(7, 10)); vspace.FrameLive(k.Realm(), c) {
		t.Error("the frame is live without its table")
	}
	fails(t, k, api.ErrKind, api.OpUnmapTable, 10)
	fails(t, k, api.ErrNoTable, api.OpMapFrame, 11, root, 64, 1)
}

func TestP29_2Messages(t *testing.T) {
	k := fixture(t)
	r := k.Realm()
	does(t, k, api.Event{Kind: api.EvPick, Core: 1, Thread: 2})
	on1 := func(e api.Event) api.Event {
		e.Core = 1
		return e
	}
	ok(t, k, api.OpMint, end, 8, 7, 5)
	does(t, k, on1(call(api.OpRecv, end, 9)))
	if rec := record(t, k, 2); rec.State != api.Receiving || rec.In != 9 || r.Current(1) != 0 {
		t.Errorf("the receiver: %+v", rec)
	}
	does(t, k, call(api.OpSend, 8, root, 1, 2, 3, 4), api.Note{Thread: 2, Msg: [4]uint64{1, 2, 3, 4}, Badge: 5, Got: true}, plain(1))
	has(t, k, slot(7, 9), api.Cap{Kind: api.KindRoot, Obj: 11})
	does(t, k, api.Event{Kind: api.EvPick, Core: 1, Thread: 2})
	does(t, k, call(api.OpCall, 8, none, 6, 7, 8, 9))
	if rec := record(t, k, 1); rec.State != api.Sending || !rec.Calls || r.Current(0) != 0 {
		t.Errorf("the caller: %+v", rec)
	}
	does(t, k, on1(call(api.OpRecv, end, none)), api.Note{Thread: 2, Msg: [4]uint64{6, 7, 8, 9}, Badge: 5})
	does(t, k, on1(call(api.OpReply, 4, 3, 2, 1)), api.Note{Thread: 1, Msg: [4]uint64{4, 3, 2, 1}}, plain(2))
	does(t, k, on1(call(api.OpReply)), api.Note{Thread: 2, Code: api.ErrNoCaller})
	does(t, k, api.Event{Kind: api.EvPick, Thread: 1})
	fails(t, k, api.ErrKind, api.OpSend, root, none)
	fails(t, k, api.ErrKind, api.OpRecv, root, none)
	does(t, k, call(api.OpSend, end, none, 1))
	if rec := record(t, k, 1); rec.State != api.Sending || rec.Calls {
		t.Errorf("the sender: %+v", rec)
	}
}

func TestP29_2Yield(t *testing.T) {
	k := fixture(t)
	r := k.Realm()
	does(t, k, api.Event{Kind: api.EvPick, Core: 1, Thread: 2})
	ok(t, k, api.OpYield)
	if r.Current(0) != 0 || r.Current(1) != 2 || !slices.Equal(r.Queue().All(), []int{2, 1}) || record(t, k, 1).State != api.Ready {
		t.Errorf("after a yield: %d, %d, %v", r.Current(0), r.Current(1), r.Queue().All())
	}
	does(t, k, api.Event{Kind: api.EvPick, Core: 0})
	if r.Current(0) != 2 {
		t.Errorf("current: %d", r.Current(0))
	}
}

func TestP29_2BindUnbind(t *testing.T) {
	k := fixture(t)
	for _, a := range []uint64{node7, untyped, root, control, end, empty} {
		for own := uint64(0); own < 3; own++ {
			fails(t, k, api.ErrKind, api.OpBind, a, own, root)
			fails(t, k, api.ErrKind, api.OpUnbind, a, own)
		}
		fails(t, k, api.ErrKind, api.OpResume, a)
		fails(t, k, api.ErrKind, api.OpSuspend, a)
		fails(t, k, api.ErrKind, api.OpPrio, a, 3)
	}
	for own, fits := range []uint64{node7, root, end} {
		for _, b := range []uint64{node7, root, end, thread1, untyped, control, pool, empty} {
			if b != fits {
				fails(t, k, api.ErrKind, api.OpBind, thread2, uint64(own), b)
			}
		}
	}
	fails(t, k, api.ErrFull, api.OpBind, thread2, api.SlotNodes, node7)
	ok(t, k, api.OpBind, thread2, api.SlotSpace, root)
	has(t, k, slot(2, api.SlotSpace), api.Cap{Kind: api.KindRoot, Obj: 11})
	ok(t, k, api.OpMint, end, 8, 6, 9)
	ok(t, k, api.OpBind, thread2, api.SlotPager, 8)
	has(t, k, slot(2, api.SlotPager), api.Cap{Kind: api.KindEndpoint, Obj: 13, Rights: 6, Badge: 9})
	if got := k.Realm().Hold().Below(slot(7, 8)); !slices.Equal(got, []api.Slot{slot(2, api.SlotPager)}) {
		t.Errorf("below the capability that was bound: %v", got)
	}
	fails(t, k, api.ErrFull, api.OpBind, thread2, api.SlotPager, end)
	ok(t, k, api.OpUnbind, thread2, api.SlotPager)
	has(t, k, slot(2, api.SlotPager), api.Cap{})
	fails(t, k, api.ErrEmpty, api.OpUnbind, thread2, api.SlotPager)
	ok(t, k, api.OpUnbind, thread2, api.SlotNodes)
	ok(t, k, api.OpBind, thread2, api.SlotNodes, node7)
	// A thread that unbinds its own nodes finds nothing any more.
	ok(t, k, api.OpUnbind, thread1, api.SlotNodes)
	fails(t, k, api.ErrLookup, api.OpDelete, end)
	ok(t, k, api.OpYield)
}

func TestP29_2BindSettles(t *testing.T) {
	k := fixture(t)
	space(t, k)
	regs := func(root, space int) {
		t.Helper()
		if a, b, _ := k.Realm().Cores().Regs(0); a != root || b != space {
			t.Errorf("core 0: %d, %d; want %d, %d", a, b, root, space)
		}
	}
	regs(10, 1)
	ok(t, k, api.OpUnbind, thread1, api.SlotSpace)
	regs(-1, 0)
	ok(t, k, api.OpBind, thread1, api.SlotSpace, root)
	regs(10, 1)
	ok(t, k, api.OpDelete, pool)
	regs(-1, 0)
}

func TestP29_2ResumeSuspendPrio(t *testing.T) {
	k := fixture(t)
	r := k.Realm()
	fails(t, k, api.ErrBusy, api.OpResume, thread2)
	fails(t, k, api.ErrBusy, api.OpResume, thread1)
	ok(t, k, api.OpPrio, thread2, 3)
	if rec := record(t, k, 2); rec.Prio != 3 || !slices.Equal(r.Queue().All(), []int{2, 1}) {
		t.Errorf("after OpPrio: %+v, %v", rec, r.Queue().All())
	}
	ok(t, k, api.OpPrio, thread1, 3)
	if !slices.Equal(r.Queue().All(), []int{2, 1}) {
		t.Errorf("queue: %v", r.Queue().All())
	}
	ok(t, k, api.OpPrio, thread2, 3)
	if !slices.Equal(r.Queue().All(), []int{1, 2}) {
		t.Errorf("queue: %v", r.Queue().All())
	}
	ok(t, k, api.OpSuspend, thread2)
	if rec := record(t, k, 2); rec.State != api.Inactive || r.Queue().Has(2) {
		t.Errorf("after OpSuspend: %+v", rec)
	}
	ok(t, k, api.OpPrio, thread2, 7)
	if r.Queue().Has(2) || record(t, k, 2).Prio != 7 {
		t.Error("OpPrio put a halted thread into the queue")
	}
	ok(t, k, api.OpResume, thread2)
	if rec := record(t, k, 2); rec.State != api.Ready || !slices.Equal(r.Queue().All(), []int{2, 1}) {
		t.Errorf("after OpResume: %+v, %v", rec, r.Queue().All())
	}
	does(t, k, api.Event{Kind: api.EvPick, Core: 1, Thread: 2})
	does(t, k, api.Event{Kind: api.EvCall, Core: 1, Call: api.Call{Op: api.OpRecv, Args: [6]uint64{end, none}}})
	fails(t, k, api.ErrBusy, api.OpResume, thread2)
	ok(t, k, api.OpSuspend, thread2)
	if rec := record(t, k, 2); rec.State != api.Inactive || rec.Wait != 0 {
		t.Errorf("after OpSuspend: %+v", rec)
	}
	if list, _ := r.Ends().List(13); len(list) != 0 {
		t.Errorf("%v wait", list)
	}
	// A thread that suspends itself.
	ok(t, k, api.OpSuspend, thread1)
	if r.Current(0) != 0 || record(t, k, 1).State != api.Inactive {
		t.Error("a thread that suspended itself goes on")
	}
	refuses(t, k, api.ErrIdle, call(api.OpYield))
}

func TestP29_2ThreadDeletesItself(t *testing.T) {
	k := fixture(t)
	ok(t, k, api.OpDelete, thread1)
	if _, there := k.Realm().Threads().Get(1); there || k.Realm().Current(0) != 0 {
		t.Error("the thread is still there")
	}
	refuses(t, k, api.ErrIdle, call(api.OpYield))
}
