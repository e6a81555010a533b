package reap_test

import (
	"fmt"
	"math"
	"slices"
	"testing"

	"seisin/api"
	"seisin/realm"
	"seisin/reap"
	"seisin/vspace"
	"seisin/walk"
)

// equal compares two values as they are printed, so that a list that is nil
// and one that is empty are the same.
func equal(a, b any) bool { return fmt.Sprintf("%+v", a) == fmt.Sprintf("%+v", b) }

func at(node, index int) api.Slot { return api.Slot{Node: node, Index: index} }

func is(t *testing.T, call string, code, want api.Errno) {
	t.Helper()
	if code != want {
		t.Errorf("%s: %d; want %d", call, code, want)
	}
}

// fixture is a realm of 40 frames and two cores in which the node 1 (frames 0
// to 3) is made; its capability is in {1, 0}.
func fixture(t *testing.T) *realm.Realm {
	t.Helper()
	r, code := realm.New(40, 2)
	if code != api.OK {
		t.Fatal(code)
	}
	object(t, r, api.KindNode, 4, 0)
	is(t, "Root", r.Hold().Root(at(1, 0), api.Cap{Kind: api.KindNode, Obj: 1, Bits: 8}), api.OK)
	return r
}

func object(t *testing.T, r *realm.Realm, kind, size, first int) int {
	t.Helper()
	id, code := r.Make(kind, size, first)
	if code != api.OK {
		t.Fatalf("Make(%d, %d, %d): %d", kind, size, first, code)
	}
	return id
}

// put makes an object, whose first capability is the Root in s.
func put(t *testing.T, r *realm.Realm, s api.Slot, kind, size, first int) int {
	t.Helper()
	id := object(t, r, kind, size, first)
	is(t, "Root", r.Hold().Root(s, whole(kind, id)), api.OK)
	return id
}

func whole(kind, id int) api.Cap {
	c := api.Cap{Kind: kind, Obj: id}
	switch kind {
	case api.KindFrame:
		c.Rights = 3
	case api.KindEndpoint:
		c.Rights = 7
	}
	return c
}

func deletes(t *testing.T, r *realm.Realm, s api.Slot, n int, want api.Errno) {
	t.Helper()
	if got, code := reap.Delete(r, s); got != n || code != want {
		t.Errorf("Delete(%v) = %d, %d; want %d, %d", s, got, code, n, want)
	}
	consistent(t, r)
}

func revokes(t *testing.T, r *realm.Realm, s api.Slot, budget, n int, want api.Errno) {
	t.Helper()
	if got, code := reap.Revoke(r, s, budget); got != n || code != want {
		t.Errorf("Revoke(%v, %d) = %d, %d; want %d, %d", s, budget, got, code, n, want)
	}
	consistent(t, r)
}

// consistent checks that each capability has its object, each object but the
// untypeds a capability, each thread and endpoint its record.
func consistent(t *testing.T, r *realm.Realm) {
	t.Helper()
	caps := map[[2]int]int{}
	for _, x := range r.Hold().Used() {
		caps[[2]int{x.Cap.Kind, x.Cap.Obj}]++
		o, ok := r.Arena().Get(x.Cap.Obj)
		if x.Cap.Kind != api.KindControl && (!ok || o.Kind != x.Cap.Kind) {
			t.Errorf("%v has a capability of nothing: %+v", x.Slot, x.Cap)
		}
	}
	for _, o := range r.Arena().All() {
		if o.Kind != api.KindUntyped && caps[[2]int{o.Kind, o.ID}] == 0 {
			t.Errorf("an object without capabilities: %+v", o)
		}
	}
	for _, rec := range r.Threads().All() {
		if o, ok := r.Arena().Get(rec.ID); !ok || o.Kind != api.KindThread {
			t.Errorf("a thread without its object: %+v", rec)
		}
	}
	for _, id := range r.Queue().All() {
		if rec, ok := r.Threads().Get(id); !ok || rec.State != api.Ready {
			t.Errorf("%d is in the queue", id)
		}
	}
}

func there(t *testing.T, r *realm.Realm, want bool, ids ...int) {
	t.Helper()
	for _, id := range ids {
		if _, ok := r.Arena().Get(id); ok != want {
			t.Errorf("the object %d: %v", id, ok)
		}
	}
}

func record(t *testing.T, r *realm.Realm, id int) api.Thread {
	t.Helper()
	rec, ok := r.Threads().Get(id)
	if !ok {
		t.Errorf("there is no thread %d", id)
	}
	return rec
}

func TestP25_Example(t *testing.T) {
	r := fixture(t)
	put(t, r, at(1, 1), api.KindUntyped, 4, 6)
	f := object(t, r, api.KindFrame, 0, 6)
	is(t, "Child", r.Hold().Child(at(1, 1), at(1, 2), whole(api.KindFrame, f)), api.OK)
	is(t, "Copy", r.Hold().Copy(at(1, 2), at(1, 3), 7), api.OK)
	revokes(t, r, at(1, 1), 1, 1, api.ErrBudget)
	there(t, r, true, f)
	revokes(t, r, at(1, 1), 1, 1, api.OK)
	there(t, r, false, f)
	revokes(t, r, at(1, 1), 1, 0, api.OK)
	deletes(t, r, at(1, 1), 1, api.OK)
	deletes(t, r, at(1, 1), 0, api.ErrEmpty)
}

func TestP25_1Errors(t *testing.T) {
	r := fixture(t)
	before := r.View()
	for _, s := range []api.Slot{at(1, 16), at(1, -1), at(2, 0), at(math.MinInt, math.MaxInt)} {
		deletes(t, r, s, 0, api.ErrRange)
		revokes(t, r, s, 1, 0, api.ErrRange)
		revokes(t, r, s, 0, 0, api.ErrRange)
	}
	deletes(t, r, at(1, 1), 0, api.ErrEmpty)
	revokes(t, r, at(1, 1), 1, 0, api.ErrEmpty)
	revokes(t, r, at(1, 1), 65, 0, api.ErrEmpty)
	for _, budget := range []int{0, -1, 65, math.MinInt, math.MaxInt} {
		revokes(t, r, at(1, 0), budget, 0, api.ErrArg)
	}
	revokes(t, r, at(1, 0), 64, 0, api.OK)
	if !equal(r.View(), before) {
		t.Error("an error changed something")
	}
	if n, code := reap.Delete(nil, at(1, 0)); n != 0 || code != api.ErrNil {
		t.Errorf("Delete of a nil realm: %d, %d", n, code)
	}
	if n, code := reap.Revoke(nil, at(1, 0), 0); n != 0 || code != api.ErrNil {
		t.Errorf("Revoke of a nil realm: %d, %d", n, code)
	}
}

func TestP25_1EveryKindEnds(t *testing.T) {
	for _, kind := range []int{api.KindUntyped, api.KindNode, api.KindFrame, api.KindTable, api.KindRoot, api.KindPool, api.KindEndpoint, api.KindThread} {
		r := fixture(t)
		size := 0
		if kind <= api.KindNode {
			size = 1
		}
		id := put(t, r, at(1, 1), kind, size, 9)
		copies := 1
		if kind != api.KindUntyped {
			is(t, "Copy", r.Hold().Copy(at(1, 1), at(1, 2), 7), api.OK)
			copies = 2
		}
		before, _ := r.Arena().Get(id)
		for i := 1; i <= copies; i++ {
			if o, ok := r.Arena().Get(id); !ok || o != before {
				t.Errorf("the object of kind %d ended too early", kind)
			}
			deletes(t, r, at(1, i), 1, api.OK)
			if c, _ := r.Hold().Get(at(1, i)); c != (api.Cap{}) {
				t.Errorf("the slot is not empty: %+v", c)
			}
		}
		there(t, r, false, id)
		if r.Ends().Add(id) != api.OK || r.Threads().Add(id) != api.OK || r.Hold().AddNode(id, 1) != api.OK {
			t.Errorf("something of the object of kind %d is left", kind)
		}
	}
}

func TestP25_1Control(t *testing.T) {
	r := fixture(t)
	is(t, "Root", r.Hold().Root(at(1, 1), api.Cap{Kind: api.KindControl}), api.OK)
	before := r.Arena().All()
	deletes(t, r, at(1, 1), 1, api.OK)
	if !equal(r.Arena().All(), before) {
		t.Error("the end of control changed the objects")
	}
}

func TestP25_1ChildrenOfADeleted(t *testing.T) {
	r := fixture(t)
	put(t, r, at(1, 1), api.KindEndpoint, 0, 9)
	r.Hold().Copy(at(1, 1), at(1, 2), 7)
	r.Hold().Copy(at(1, 2), at(1, 3), 7)
	r.Hold().Copy(at(1, 3), at(1, 4), 7)
	deletes(t, r, at(1, 2), 1, api.OK)
	if got := r.Hold().Below(at(1, 1)); !slices.Equal(got, []api.Slot{at(1, 3), at(1, 4)}) {
		t.Errorf("below: %v", got)
	}
	revokes(t, r, at(1, 3), 5, 1, api.OK)
	revokes(t, r, at(1, 1), 5, 1, api.OK)
	there(t, r, true, 10)
}

// mappedFixture has the root 11, the tables 12 and 13 on both levels of page
// 0, and the frame 14 at page 0; the pool is 15. Their slots are 1 to 5.
func mappedFixture(t *testing.T) *realm.Realm {
	t.Helper()
	r := fixture(t)
	for i, kind := range []int{api.KindRoot, api.KindTable, api.KindTable, api.KindFrame, api.KindPool} {
		put(t, r, at(1, i+1), kind, 0, 10+i)
	}
	is(t, "Root", r.Hold().Root(at(1, 6), api.Cap{Kind: api.KindControl}), api.OK)
	is(t, "Enable", vspace.Enable(r, at(1, 6), at(1, 5)), api.OK)
	is(t, "Assign", vspace.Assign(r, at(1, 5), at(1, 1)), api.OK)
	is(t, "MapTable", vspace.MapTable(r, at(1, 2), at(1, 1), 0), api.OK)
	is(t, "MapTable", vspace.MapTable(r, at(1, 3), at(1, 1), 0), api.OK)
	is(t, "Copy", r.Hold().Copy(at(1, 4), at(1, 7), 7), api.OK)
	is(t, "MapFrame", vspace.MapFrame(r, at(1, 4), at(1, 1), 0, 3), api.OK)
	is(t, "MapFrame", vspace.MapFrame(r, at(1, 7), at(1, 1), 64, 1), api.OK)
	for core := range 2 {
		r.Cores().Set(core, 10, 1)
		r.Cores().Prefetch(core, r.Mem(), 0)
		r.Cores().Prefetch(core, r.Mem(), 1)
	}
	return r
}

func reach(t *testing.T, r *realm.Realm, want ...bool) {
	t.Helper()
	for page, ok := range want {
		if _, code := walk.Walk(r.Mem(), 10, page); (code == api.OK) != ok {
			t.Errorf("page %d: %d", page, code)
		}
		for core := range 2 {
			has := slices.ContainsFunc(r.Cores().All(core), func(x api.Trans) bool { return x.Page == page })
			if has && !ok {
				t.Errorf("core %d has page %d", core, page)
			}
		}
	}
}

func TestP25_1Mapped(t *testing.T) {
	r := mappedFixture(t)
	deletes(t, r, at(1, 4), 1, api.OK)
	there(t, r, true, 14)
	reach(t, r, false, true)
	deletes(t, r, at(1, 7), 1, api.OK)
	there(t, r, false, 14)
	reach(t, r, false, false)

	r = mappedFixture(t)
	deletes(t, r, at(1, 3), 1, api.OK)
	there(t, r, false, 13)
	reach(t, r, false, false)
	if x, _ := r.Arena().Get(12); x.Level != 1 || !vspace.TableLive(r, 12) {
		t.Errorf("the other table: %+v", x)
	}

	r = mappedFixture(t)
	is(t, "Copy", r.Hold().Copy(at(1, 3), at(1, 8), 7), api.OK)
	deletes(t, r, at(1, 3), 1, api.OK)
	reach(t, r, true, true)

	r = mappedFixture(t)
	deletes(t, r, at(1, 1), 1, api.OK)
	there(t, r, false, 11)
	if _, _, ok := r.Asids().Root(1); ok || len(r.Cores().All(0))+len(r.Cores().All(1)) != 0 {
		t.Error("the space of a root that ended")
	}

	r = mappedFixture(t)
	deletes(t, r, at(1, 5), 1, api.OK)
	if _, _, ok := r.Asids().Of(11); ok || !r.Asids().Pools()[0].Dead || len(r.Cores().All(0))+len(r.Cores().All(1)) != 0 {
		t.Error("the spaces of a pool that ended")
	}
}

func TestP25_1Endpoint(t *testing.T) {
	r := fixture(t)
	end := put(t, r, at(1, 1), api.KindEndpoint, 0, 5)
	other := put(t, r, at(1, 2), api.KindEndpoint, 0, 6)
	for i := range 4 {
		id := put(t, r, at(1, 3+i), api.KindThread, 0, 10+i)
		rec := record(t, r, id)
		rec.Wait, rec.State, rec.Calls, rec.Out = end, api.Sending, true, [4]uint64{1}
		if i == 3 {
			rec.Wait = other
		}
		r.Threads().Set(rec)
		is(t, "Wait", r.Ends().Wait(rec.Wait, id, true), api.OK)
	}
	is(t, "Copy", r.Hold().Copy(at(1, 1), at(1, 8), 7), api.OK)
	deletes(t, r, at(1, 1), 1, api.OK)
	if list, _ := r.Ends().List(end); len(list) != 3 {
		t.Errorf("an endpoint that has not ended: %v wait", list)
	}
	deletes(t, r, at(1, 8), 1, api.OK)
	for i := range 3 {
		if rec := record(t, r, 11+i); rec != (api.Thread{ID: 11 + i, Give: 4096, In: 4096}) {
			t.Errorf("a thread that waited: %+v", rec)
		}
	}
	if rec := record(t, r, 14); rec.State != api.Sending || rec.Wait != other {
		t.Errorf("a thread that waits elsewhere: %+v", rec)
	}
}

func TestP25_1Thread(t *testing.T) {
	r := fixture(t)
	end := put(t, r, at(1, 1), api.KindEndpoint, 0, 5)
	server := put(t, r, at(1, 2), api.KindThread, 0, 10)
	caller := put(t, r, at(1, 3), api.KindThread, 0, 11)
	rec := record(t, r, server)
	rec.Caller, rec.State = caller, api.Ready
	r.Threads().Set(rec)
	is(t, "State", r.State(server, api.Ready), api.OK)
	rec = record(t, r, caller)
	rec.State, rec.Calls = api.Replying, true
	r.Threads().Set(rec)
	// The thread's own slots: the node's capability, and the endpoint's last ones.
	is(t, "Copy", r.Hold().Copy(at(1, 0), at(server, 0), 7), api.OK)
	is(t, "Move", r.Hold().Move(at(1, 1), at(server, 2)), api.OK)
	is(t, "Run", r.Run(0, server), api.OK)
	deletes(t, r, at(1, 2), 3, api.OK)
	there(t, r, false, server, end)
	there(t, r, true, 1, caller)
	if rec := record(t, r, caller); rec.State != api.Inactive || rec.Calls {
		t.Errorf("the caller of a thread that ended: %+v", rec)
	}
	if r.Current(0) != 0 {
		t.Error("the realm is not settled")
	}
	if r.Queue().Has(server) || r.Hold().Slots().Size(server) != 0 {
		t.Error("something of the thread is left")
	}
}

func TestP25_1CallerOfAServerThatStays(t *testing.T) {
	r := fixture(t)
	server := put(t, r, at(1, 2), api.KindThread, 0, 10)
	caller := put(t, r, at(1, 3), api.KindThread, 0, 11)
	rec := record(t, r, server)
	rec.Caller = caller
	r.Threads().Set(rec)
	rec = record(t, r, caller)
	rec.State = api.Replying
	r.Threads().Set(rec)
	deletes(t, r, at(1, 3), 1, api.OK)
	if rec := record(t, r, server); rec.Caller != 0 {
		t.Errorf("the server of a thread that ended: %+v", rec)
	}
}

func TestP25_1NodesWithinNodes(t *testing.T) {
	r := fixture(t)
	a := put(t, r, at(1, 1), api.KindNode, 2, 5)
	b := put(t, r, at(a, 3), api.KindNode, 2, 6)
	c := put(t, r, at(b, 1), api.KindNode, 2, 7)
	f := put(t, r, at(c, 2), api.KindFrame, 0, 8)
	is(t, "Copy", r.Hold().Copy(at(1, 1), at(c, 0), 7), api.OK)
	// The node a has a capability within itself, so it does not end.
	deletes(t, r, at(1, 1), 1, api.OK)
	there(t, r, true, a, b, c, f)
	is(t, "Move", r.Hold().Move(at(c, 0), at(1, 1)), api.OK)
	is(t, "Root", r.Hold().Root(at(a, 0), whole(api.KindFrame, f)), api.OK)
	is(t, "Copy", r.Hold().Copy(at(1, 0), at(b, 3), 7), api.OK)
	deletes(t, r, at(1, 1), 6, api.OK)
	there(t, r, false, a, b, c, f)
	there(t, r, true, 1)
	if used := r.Hold().Used(); len(used) != 1 || used[0].Slot != at(1, 0) {
		t.Errorf("used: %+v", used)
	}
}

func TestP25_1ItsOwnNode(t *testing.T) {
	r := fixture(t)
	f := put(t, r, at(1, 5), api.KindFrame, 0, 8)
	// The capability in {1, 0} is that of its own node, and the last one.
	deletes(t, r, at(1, 0), 2, api.OK)
	there(t, r, false, 1, f)
	if len(r.Hold().Used()) != 0 || len(r.Arena().All()) != 0 || r.Hold().Slots().Size(1) != 0 {
		t.Error("something is left")
	}
}

func TestP25_2Revoke(t *testing.T) {
	r := fixture(t)
	put(t, r, at(1, 1), api.KindEndpoint, 0, 9)
	for i := 2; i < 12; i++ {
		is(t, "Copy", r.Hold().Copy(at(1, 1+i%2), at(1, i), 7), api.OK)
	}
	other := put(t, r, at(1, 12), api.KindEndpoint, 0, 10)
	first := r.Hold().Below(at(1, 1))[0]
	revokes(t, r, at(1, 1), 1, 1, api.ErrBudget)
	if c, _ := r.Hold().Get(first); c != (api.Cap{}) {
		t.Error("it was not the first slot below that was deleted")
	}
	revokes(t, r, at(1, 1), 4, 4, api.ErrBudget)
	revokes(t, r, at(1, 1), 5, 5, api.OK)
	if len(r.Hold().Below(at(1, 1))) != 0 {
		t.Error("something is below")
	}
	revokes(t, r, at(1, 1), 64, 0, api.OK)
	there(t, r, true, 10, other)
}

func TestP25_2RevokeCountsDeletions(t *testing.T) {
	r := fixture(t)
	put(t, r, at(1, 1), api.KindUntyped, 8, 8)
	node := object(t, r, api.KindNode, 3, 8)
	is(t, "Child", r.Hold().Child(at(1, 1), at(1, 2), whole(api.KindNode, node)), api.OK)
	put(t, r, at(node, 0), api.KindFrame, 0, 20)
	put(t, r, at(node, 1), api.KindFrame, 0, 21)
	put(t, r, at(node, 2), api.KindFrame, 0, 22)
	revokes(t, r, at(1, 1), 1, 1, api.OK)
	there(t, r, false, node, 21, 22, 23)
}

func TestP25_2RevokeEmptiesItself(t *testing.T) {
	r := fixture(t)
	put(t, r, at(1, 1), api.KindUntyped, 8, 8)
	node := object(t, r, api.KindNode, 2, 8)
	f := object(t, r, api.KindFrame, 0, 9)
	is(t, "Child", r.Hold().Child(at(1, 1), at(1, 3), whole(api.KindFrame, f)), api.OK)
	is(t, "Child", r.Hold().Child(at(1, 1), at(1, 2), whole(api.KindNode, node)), api.OK)
	// The untyped's own capability is moved into the node that is made of it.
	is(t, "Move", r.Hold().Move(at(1, 1), at(node, 1)), api.OK)
	revokes(t, r, at(node, 1), 1, 1, api.OK)
	there(t, r, false, node, 9)
	there(t, r, true, f)
	if c, _ := r.Hold().Get(at(1, 3)); c.Obj != f {
		t.Error("the rest did not stay")
	}
}

func TestP25_3EntriesOfDeletedFrames(t *testing.T) {
	r := mappedFixture(t)
	revokes(t, r, at(1, 4), 3, 1, api.OK)
	reach(t, r, true, false)
	if c, _ := r.Hold().Get(at(1, 4)); !vspace.FrameLive(r, c) {
		t.Error("the capability above lost its map")
	}
	deletes(t, r, at(1, 4), 1, api.OK)
	reach(t, r, false, false)
}
