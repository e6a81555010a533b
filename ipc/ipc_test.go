package ipc_test

import (
	"fmt"
	"math"
	"slices"
	"testing"

	"seisin/api"
	"seisin/ipc"
	"seisin/realm"
)

// equal compares two values as they are printed, so that a list that is nil
// and one that is empty are the same.
func equal(a, b any) bool { return fmt.Sprintf("%+v", a) == fmt.Sprintf("%+v", b) }

func at(node, index int) api.Slot { return api.Slot{Node: node, Index: index} }

func is(t *testing.T, call string, code, want api.Errno) {
	t.Helper()
	if code != want {
		t.Errorf("%s: %d; want %d", call, code, want)
	}
}

const none = api.NoAddr

// The endpoint, and the slots of node 7 with its capabilities.
const end = 20

var (
	all       = at(7, 0) // all rights, badge 5
	reads     = at(7, 1) // Read
	writes    = at(7, 2) // Write
	grantless = at(7, 3) // Read and Write
	readGrant = at(7, 4) // Read and Grant
	frame     = at(7, 8) // a frame's capability
	untyped   = at(7, 9) // an untyped's capability
	other     = at(7, 6) // another endpoint's, 22
)

// fixture has the threads 1 to 4, all Ready, the node 7 (radix 4, at addresses
// from 0 on for the threads 1 and 2), the endpoints 20 and 22, the frame 21.
func fixture(t *testing.T) *realm.Realm {
	t.Helper()
	r, code := realm.New(30, 2)
	if code != api.OK {
		t.Fatal(code)
	}
	for _, x := range []struct{ kind, size, first int }{{api.KindThread, 0, 0}, {api.KindThread, 0, 1}, {api.KindThread, 0, 2}, {api.KindThread, 0, 3}, {api.KindNode, 4, 6}, {api.KindEndpoint, 0, 19}, {api.KindFrame, 0, 20}, {api.KindEndpoint, 0, 21}, {api.KindUntyped, 3, 22}} {
		if _, code := r.Make(x.kind, x.size, x.first); code != api.OK {
			t.Fatal(code)
		}
	}
	for s, c := range map[api.Slot]api.Cap{
		all: {Kind: api.KindEndpoint, Obj: end, Rights: 7, Badge: 5}, reads: {Kind: api.KindEndpoint, Obj: end, Rights: 1},
		writes: {Kind: api.KindEndpoint, Obj: end, Rights: 2, Badge: 9}, grantless: {Kind: api.KindEndpoint, Obj: end, Rights: 3},
		readGrant: {Kind: api.KindEndpoint, Obj: end, Rights: 5}, other: {Kind: api.KindEndpoint, Obj: 22, Rights: 7},
		frame: {Kind: api.KindFrame, Obj: 21, Rights: 3}, untyped: {Kind: api.KindUntyped, Obj: 23},
	} {
		is(t, "Root", r.Hold().Root(s, c), api.OK)
	}
	for id := 1; id <= 4; id++ {
		is(t, "State", r.State(id, api.Ready), api.OK)
	}
	for id := 1; id <= 2; id++ {
		is(t, "Root", r.Hold().Root(at(id, api.SlotNodes), api.Cap{Kind: api.KindNode, Obj: 7, Bits: 8}), api.OK)
	}
	return r
}

func words(w uint64) [4]uint64 { return [4]uint64{w, w + 1, w + 2, w + 3} }

func note(id int, w, badge uint64, got bool) api.Note {
	return api.Note{Thread: id, Msg: words(w), Badge: badge, Got: got}
}

func plain(id int) api.Note { return api.Note{Thread: id} }

func tells(t *testing.T, call string, notes []api.Note, code api.Errno, want ...api.Note) {
	t.Helper()
	if !slices.Equal(notes, want) || code != api.OK {
		t.Errorf("%s: %+v, %d; want %+v", call, notes, code, want)
	}
}

func send(t *testing.T, r *realm.Realm, id int, s api.Slot, w uint64, give int, calls bool, want ...api.Note) {
	t.Helper()
	notes, code := ipc.Send(r, id, s, words(w), give, calls)
	tells(t, "Send", notes, code, want...)
}

func recv(t *testing.T, r *realm.Realm, id int, s api.Slot, in int, want ...api.Note) {
	t.Helper()
	notes, code := ipc.Recv(r, id, s, in)
	tells(t, "Recv", notes, code, want...)
}

func reply(t *testing.T, r *realm.Realm, id int, w uint64, want ...api.Note) {
	t.Helper()
	notes, code := ipc.Reply(r, id, words(w))
	tells(t, "Reply", notes, code, want...)
}

// fails runs a call that must change nothing.
func fails(t *testing.T, r *realm.Realm, call string, want api.Errno, do func() ([]api.Note, api.Errno)) {
	t.Helper()
	before := r.View()
	list, sends := r.Ends().List(end)
	notes, code := do()
	if len(notes) != 0 || code != want {
		t.Errorf("%s: %+v, %d; want %d", call, notes, code, want)
	}
	after, sends2 := r.Ends().List(end)
	if !equal(r.View(), before) || !slices.Equal(list, after) || sends != sends2 {
		t.Errorf("%s returned %d and changed something", call, want)
	}
}

func state(t *testing.T, r *realm.Realm, want ...int) {
	t.Helper()
	var got []int
	for id := 1; id <= len(want); id++ {
		rec, _ := r.Threads().Get(id)
		got = append(got, rec.State)
		if r.Queue().Has(id) != (rec.State == api.Ready) {
			t.Errorf("the thread %d: state %d, in the queue %v", id, rec.State, r.Queue().Has(id))
		}
	}
	if !slices.Equal(got, want) {
		t.Errorf("states %v; want %v", got, want)
	}
}

func record(t *testing.T, r *realm.Realm, want api.Thread) {
	t.Helper()
	if got, _ := r.Threads().Get(want.ID); got != want {
		t.Errorf("the thread %d: %+v; want %+v", want.ID, got, want)
	}
}

func waiting(t *testing.T, r *realm.Realm, sends bool, want ...int) {
	t.Helper()
	if got, s := r.Ends().List(end); !slices.Equal(got, want) || s != sends {
		t.Errorf("%v wait, to send: %v; want %v, %v", got, s, want, sends)
	}
}

func TestP26_Example(t *testing.T) {
	r := fixture(t)
	recv(t, r, 2, all, none)
	state(t, r, api.Ready, api.Receiving)
	send(t, r, 1, all, 9, none, false, note(2, 9, 5, false), plain(1))
	state(t, r, api.Ready, api.Ready)
	send(t, r, 1, all, 3, none, true)
	state(t, r, api.Sending, api.Ready)
	recv(t, r, 2, all, none, note(2, 3, 5, false))
	state(t, r, api.Replying, api.Ready)
	reply(t, r, 2, 8, note(1, 8, 0, false), plain(2))
	state(t, r, api.Ready, api.Ready)
}

func TestP26_1SendErrors(t *testing.T) {
	r := fixture(t)
	do := func(id int, s api.Slot, give int) func() ([]api.Note, api.Errno) {
		return func() ([]api.Note, api.Errno) { return ipc.Send(r, id, s, words(1), give, true) }
	}
	for _, id := range []int{0, 5, 7, end, -1, math.MinInt, math.MaxInt} {
		fails(t, r, "no thread", api.ErrArg, do(id, frame, none))
	}
	for _, give := range []int{-1, none + 1, math.MinInt, math.MaxInt} {
		fails(t, r, "a bad address", api.ErrArg, do(1, frame, give))
	}
	for _, s := range []api.Slot{frame, untyped, at(7, 15), at(7, 16), at(8, 0), at(1, api.SlotNodes)} {
		fails(t, r, "no endpoint", api.ErrKind, do(1, s, none))
	}
	fails(t, r, "no Write", api.ErrRights, do(1, reads, none))
	fails(t, r, "no Write", api.ErrRights, do(1, readGrant, 8))
	fails(t, r, "no Grant", api.ErrRights, do(1, grantless, 8))
	fails(t, r, "no Grant", api.ErrRights, do(1, writes, 0))
	for _, s := range []int{api.Inactive, api.Sending, api.Receiving, api.Replying} {
		r.State(3, s)
		fails(t, r, "not Ready", api.ErrArg, do(3, frame, none))
	}
	for _, do := range []func() ([]api.Note, api.Errno){
		func() ([]api.Note, api.Errno) { return ipc.Send(nil, 0, frame, words(1), -1, false) },
		func() ([]api.Note, api.Errno) { return ipc.Recv(nil, 0, frame, -1) },
		func() ([]api.Note, api.Errno) { return ipc.Reply(nil, 0, words(1)) },
	} {
		fails(t, r, "a nil realm", api.ErrNil, do)
	}
}

func TestP26_2RecvErrors(t *testing.T) {
	r := fixture(t)
	do := func(id int, s api.Slot, in int) func() ([]api.Note, api.Errno) {
		return func() ([]api.Note, api.Errno) { return ipc.Recv(r, id, s, in) }
	}
	send(t, r, 4, all, 1, none, false)
	for _, id := range []int{0, 5, 7, end, -1, math.MinInt, math.MaxInt} {
		fails(t, r, "no thread", api.ErrArg, do(id, frame, none))
	}
	for _, in := range []int{-1, none + 1, math.MinInt, math.MaxInt} {
		fails(t, r, "a bad address", api.ErrArg, do(1, writes, in))
	}
	for _, s := range []api.Slot{frame, untyped, at(7, 15), at(7, 16), at(8, 0), at(1, api.SlotNodes)} {
		fails(t, r, "no endpoint", api.ErrKind, do(1, s, none))
	}
	fails(t, r, "no Read", api.ErrRights, do(1, writes, none))
	for _, s := range []int{api.Inactive, api.Sending, api.Receiving, api.Replying} {
		r.State(3, s)
		fails(t, r, "not Ready", api.ErrArg, do(3, frame, none))
		fails(t, r, "not Ready", api.ErrArg, func() ([]api.Note, api.Errno) { return ipc.Reply(r, 3, words(1)) })
	}
}

func TestP26_1Waiting(t *testing.T) {
	r := fixture(t)
	send(t, r, 1, all, 9, 8, false)
	record(t, r, api.Thread{ID: 1, State: api.Sending, Out: words(9), OutBadge: 5, Give: 8, In: none, Wait: end})
	send(t, r, 2, writes, 1, none, true)
	record(t, r, api.Thread{ID: 2, State: api.Sending, Out: words(1), OutBadge: 9, Give: none, In: none, Wait: end, Calls: true})
	waiting(t, r, true, 1, 2)
	state(t, r, api.Sending, api.Sending, api.Ready)
	recv(t, r, 3, other, 5)
	record(t, r, api.Thread{ID: 3, State: api.Receiving, Give: none, In: 5, Wait: 22})
	waiting(t, r, true, 1, 2)
}

func TestP26_1OrderOfReceivers(t *testing.T) {
	r := fixture(t)
	recv(t, r, 3, reads, 6)
	recv(t, r, 2, reads, none)
	record(t, r, api.Thread{ID: 3, State: api.Receiving, Give: none, In: 6, Wait: end})
	waiting(t, r, false, 3, 2)
	send(t, r, 1, writes, 40, none, false, note(3, 40, 9, false), plain(1))
	record(t, r, api.Thread{ID: 3, State: api.Ready, Give: none, In: none, Msg: words(40), Badge: 9})
	record(t, r, api.Thread{ID: 1, State: api.Ready, Give: none, In: none})
	waiting(t, r, false, 2)
	send(t, r, 3, all, 50, none, false, note(2, 50, 5, false), plain(3))
	waiting(t, r, false)
	send(t, r, 1, all, 60, none, false)
	waiting(t, r, true, 1)
	state(t, r, api.Sending, api.Ready, api.Ready)
}

func TestP26_2OrderOfSenders(t *testing.T) {
	r := fixture(t)
	send(t, r, 2, writes, 10, none, false)
	send(t, r, 1, all, 20, none, true)
	send(t, r, 4, all, 30, none, false)
	recv(t, r, 3, reads, 6, note(3, 10, 9, false), plain(2))
	record(t, r, api.Thread{ID: 2, State: api.Ready, Give: none, In: none})
	record(t, r, api.Thread{ID: 3, State: api.Ready, Give: none, In: none, Msg: words(10), Badge: 9})
	waiting(t, r, true, 1, 4)
	recv(t, r, 3, reads, none, note(3, 20, 5, false))
	record(t, r, api.Thread{ID: 1, State: api.Replying, Give: none, In: none, Calls: true})
	record(t, r, api.Thread{ID: 3, State: api.Ready, Give: none, In: none, Msg: words(20), Badge: 5, Caller: 1})
	waiting(t, r, true, 4)
	recv(t, r, 2, reads, none, note(2, 30, 5, false), plain(4))
	recv(t, r, 2, reads, none)
	waiting(t, r, false, 2)
	reply(t, r, 3, 70, note(1, 70, 0, false), plain(3))
	record(t, r, api.Thread{ID: 1, State: api.Ready, Give: none, In: none, Msg: words(70)})
	record(t, r, api.Thread{ID: 3, State: api.Ready, Give: none, In: none, Msg: words(20), Badge: 5})
}

func TestP26_1CallOfAWaitingReceiver(t *testing.T) {
	r := fixture(t)
	recv(t, r, 2, reads, none)
	send(t, r, 1, all, 10, none, true, note(2, 10, 5, false))
	record(t, r, api.Thread{ID: 1, State: api.Replying, Give: none, In: none, Calls: true})
	record(t, r, api.Thread{ID: 2, State: api.Ready, Give: none, In: none, Msg: words(10), Badge: 5, Caller: 1})
	// Another call halts the one that waited for a reply.
	recv(t, r, 2, reads, none)
	send(t, r, 3, all, 20, none, true, note(2, 20, 5, false))
	record(t, r, api.Thread{ID: 1, State: api.Inactive, Give: none, In: none})
	record(t, r, api.Thread{ID: 2, State: api.Ready, Give: none, In: none, Msg: words(20), Badge: 5, Caller: 3})
	// So does one that waited before it is received.
	send(t, r, 4, all, 30, none, true)
	recv(t, r, 2, reads, none, note(2, 30, 5, false))
	state(t, r, api.Inactive, api.Ready, api.Inactive, api.Replying)
	record(t, r, api.Thread{ID: 2, State: api.Ready, Give: none, In: none, Msg: words(30), Badge: 5, Caller: 4})
	// A send that is no call leaves it.
	r.State(1, api.Ready)
	send(t, r, 1, all, 40, none, false)
	recv(t, r, 2, reads, none, note(2, 40, 5, false), plain(1))
	reply(t, r, 2, 50, note(4, 50, 0, false), plain(2))
	state(t, r, api.Ready, api.Ready, api.Inactive, api.Ready)
}

// given is a node 7 slot in which nothing is at first, and its address.
const given = 12

func TestP26_1Transfer(t *testing.T) {
	copied := api.Cap{Kind: api.KindFrame, Obj: 21, Rights: 3}
	for _, x := range []struct {
		from, to, give, in int
		got                bool
	}{
		{1, 2, 8, given, true}, {2, 1, 8, given, true}, {1, 2, none, given, false}, {1, 2, 8, none, false}, {1, 2, none, none, false},
		{1, 2, 15, given, false}, {1, 2, 16, given, false}, {1, 2, 4095, given, false}, {1, 2, 8, 16, false}, {1, 2, 8, 4095, false},
		{1, 2, 8, 0, false}, {1, 2, 9, given, false}, {3, 2, 8, given, false}, {1, 3, 8, given, false},
	} {
		for range 2 {
			first := fixture(t)
			recv(t, first, x.to, reads, x.in)
			send(t, first, x.from, all, 10, x.give, false, note(x.to, 10, 5, x.got), plain(x.from))
			second := fixture(t)
			send(t, second, x.from, all, 10, x.give, false)
			recv(t, second, x.to, reads, x.in, note(x.to, 10, 5, x.got), plain(x.from))
			for _, r := range []*realm.Realm{first, second} {
				record(t, r, api.Thread{ID: x.to, State: api.Ready, Give: none, In: none, Msg: words(10), Badge: 5, Got: x.got})
				record(t, r, api.Thread{ID: x.from, State: api.Ready, Give: none, In: none})
				c, _ := r.Hold().Get(at(7, given))
				if x.got && c != copied || !x.got && c != (api.Cap{}) {
					t.Errorf("%+v: the slot has %+v", x, c)
				}
				if got := r.Hold().Below(frame); x.got != slices.Equal(got, []api.Slot{at(7, given)}) {
					t.Errorf("%+v: below the original: %v", x, got)
				}
			}
		}
	}
}

func TestP26_1TransferIsACopy(t *testing.T) {
	r := fixture(t)
	is(t, "Set", r.Hold().Set(frame, api.Cap{Kind: api.KindFrame, Obj: 21, Rights: 1, Serial: 4, Page: 7}), api.OK)
	recv(t, r, 2, reads, given)
	send(t, r, 1, all, 10, 8, false, note(2, 10, 5, true), plain(1))
	if c, _ := r.Hold().Get(at(7, given)); c != (api.Cap{Kind: api.KindFrame, Obj: 21, Rights: 1}) {
		t.Errorf("the copy: %+v", c)
	}
	// The endpoint's own capability, with all its rights, in a call.
	recv(t, r, 2, reads, 13)
	send(t, r, 1, all, 10, 0, true, note(2, 10, 5, true))
	if c, _ := r.Hold().Get(at(7, 13)); c != (api.Cap{Kind: api.KindEndpoint, Obj: end, Rights: 7, Badge: 5}) {
		t.Errorf("the copy: %+v", c)
	}
	// What was got once is not got again.
	reply(t, r, 2, 3, note(1, 3, 0, false), plain(2))
	recv(t, r, 2, reads, none)
	send(t, r, 1, all, 11, 8, false, note(2, 11, 5, false), plain(1))
}

func TestP26_3Reply(t *testing.T) {
	r := fixture(t)
	fails(t, r, "no Caller", api.ErrNoCaller, func() ([]api.Note, api.Errno) { return ipc.Reply(r, 2, words(1)) })
	for _, id := range []int{0, 9, -1, math.MinInt} {
		fails(t, r, "no thread", api.ErrArg, func() ([]api.Note, api.Errno) { return ipc.Reply(r, id, words(1)) })
	}
	recv(t, r, 2, reads, none)
	send(t, r, 1, all, 10, none, true, note(2, 10, 5, false))
	rec, _ := r.Threads().Get(1)
	rec.Badge, rec.Got, rec.Retry, rec.Caller = 6, true, api.Access{Has: true, Va: 8}, 4
	r.Threads().Set(rec)
	reply(t, r, 2, 20, note(1, 20, 0, false), plain(2))
	record(t, r, api.Thread{ID: 1, State: api.Ready, Give: none, In: none, Msg: words(20), Retry: api.Access{Has: true, Va: 8}, Caller: 4})
	fails(t, r, "no Caller any more", api.ErrNoCaller, func() ([]api.Note, api.Errno) { return ipc.Reply(r, 2, words(1)) })
}

func TestP26_3ReplyToAFault(t *testing.T) {
	r := fixture(t)
	// The thread 1 has faulted, and sends a message about it.
	send(t, r, 1, writes, 10, none, true)
	rec, _ := r.Threads().Get(1)
	rec.Calls, rec.Faulted, rec.Retry = false, true, api.Access{Has: true, Va: 64}
	rec.Msg, rec.Badge, rec.Got = words(90), 3, true
	r.Threads().Set(rec)
	recv(t, r, 2, reads, none, note(2, 10, 9, false))
	rec = api.Thread{ID: 1, State: api.Replying, Give: none, In: none, Faulted: true, Retry: rec.Retry, Msg: words(90), Badge: 3, Got: true}
	record(t, r, rec)
	reply(t, r, 2, 70, plain(2))
	rec.State, rec.Faulted = api.Ready, false
	record(t, r, rec)
	state(t, r, api.Ready, api.Ready)
	fails(t, r, "no Caller any more", api.ErrNoCaller, func() ([]api.Note, api.Errno) { return ipc.Reply(r, 2, words(1)) })
}

func TestP26_3QueueOfTheReplied(t *testing.T) {
	r := fixture(t)
	rec, _ := r.Threads().Get(1)
	rec.Prio = 5
	r.Threads().Set(rec)
	recv(t, r, 2, reads, none)
	send(t, r, 1, all, 10, none, true, note(2, 10, 5, false))
	if got := r.Queue().All(); !slices.Equal(got, []int{3, 4, 2}) {
		t.Errorf("queue: %v", got)
	}
	reply(t, r, 2, 20, note(1, 20, 0, false), plain(2))
	if got := r.Queue().All(); !slices.Equal(got, []int{1, 3, 4, 2}) {
		t.Errorf("queue: %v", got)
	}
}

func TestP26_4EachMessageOnce(t *testing.T) {
	r := fixture(t)
	seed := uint32(11)
	next := func(n int) int {
		seed = seed*1664525 + 1013904223
		return int(seed>>8) % n
	}
	sent, received := map[uint64]int{}, map[uint64]int{}
	for i := range uint64(5000) {
		id := 1 + next(4)
		var notes []api.Note
		var code api.Errno
		switch next(7) {
		case 0:
			// So that not all of them wait for each other.
			is(t, "Halt", r.Halt(id), api.OK)
		case 1, 2:
			notes, code = ipc.Send(r, id, all, [4]uint64{1000 + i}, none, next(2) == 0)
			if code == api.OK {
				sent[1000+i]++
			}
		case 3, 4:
			notes, code = ipc.Recv(r, id, all, none)
		default:
			notes, code = ipc.Reply(r, id, [4]uint64{})
		}
		for _, n := range notes {
			if n.Msg[0] >= 1000 {
				received[n.Msg[0]]++
			}
		}
		for _, rec := range r.Threads().All() {
			if r.Queue().Has(rec.ID) != (rec.State == api.Ready) {
				t.Fatalf("%+v in the queue: %v", rec, r.Queue().Has(rec.ID))
			}
			if (rec.State == api.Replying) != (r.Threads().Server(rec.ID) != 0) || (rec.Wait != 0) != (rec.State == api.Sending || rec.State == api.Receiving) {
				t.Fatalf("%+v, whose server is %d", rec, r.Threads().Server(rec.ID))
			}
			if rec.State == api.Inactive {
				r.State(rec.ID, api.Ready)
			}
		}
	}
	for m, n := range received {
		if n != 1 || sent[m] != 1 {
			t.Errorf("the message %d was sent %d times and received %d times", m, sent[m], n)
		}
	}
	if len(received) < 300 {
		t.Errorf("%d messages were sent, %d received", len(sent), len(received))
	}
}
