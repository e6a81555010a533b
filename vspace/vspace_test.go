package vspace_test

import (
	"fmt"
	"math"
	"testing"

	"seisin/api"
	"seisin/realm"
	"seisin/vspace"
	"seisin/walk"
)

// equal compares two values as they are printed, so that a list that is nil
// and one that is empty are the same.
func equal(a, b any) bool { return fmt.Sprintf("%+v", a) == fmt.Sprintf("%+v", b) }

// The slots of the fixture's node 1.
const (
	rootA = iota
	rootB
	poolP
	tableT
	tableU
	tableV
	tableW
	frameF
	frameG
	control
	poolQ
	copyF
	empty
	end
	node
)

func at(index int) api.Slot { return api.Slot{Node: 1, Index: index} }

// nowhere are slots that do not exist.
var nowhere = []api.Slot{{Node: 1, Index: 16}, {Node: 1, Index: -1}, {Node: 2}, {Node: math.MinInt, Index: math.MaxInt}}

func is(t *testing.T, call string, code, want api.Errno) {
	t.Helper()
	if code != want {
		t.Errorf("%s: %d; want %d", call, code, want)
	}
}

// fixture has node 1 with the roots 5 and 6 (frames 4 and 5), the pool 7, the
// tables 8 to 11 (frames 7 to 10), the frames 12 and 13 (frames 11 and 12),
// the endpoint 14 and the pool 15. The root 5 has number 1; memory outside the
// roots is not zero.
func fixture(t *testing.T) *realm.Realm {
	t.Helper()
	r, code := realm.New(20, 2)
	if code != api.OK {
		t.Fatal(code)
	}
	for first, kind := range map[int]int{0: api.KindNode, 4: api.KindRoot, 5: api.KindRoot, 6: api.KindPool, 7: api.KindTable, 8: api.KindTable, 9: api.KindTable, 10: api.KindTable, 11: api.KindFrame, 12: api.KindFrame, 13: api.KindEndpoint, 14: api.KindPool} {
		size := 0
		if kind == api.KindNode {
			size = 4
		}
		if id, code := r.Make(kind, size, first); id != first+1 || code != api.OK {
			t.Fatalf("Make: %d, %d", id, code)
		}
	}
	for a := uint64(7 * 64); a < 13*64; a += 8 {
		r.Mem().Store(a, 0xb07)
	}
	for i, c := range map[int]api.Cap{
		rootA: {Kind: api.KindRoot, Obj: 5}, rootB: {Kind: api.KindRoot, Obj: 6}, poolP: {Kind: api.KindPool, Obj: 7},
		tableT: {Kind: api.KindTable, Obj: 8}, tableU: {Kind: api.KindTable, Obj: 9}, tableV: {Kind: api.KindTable, Obj: 10}, tableW: {Kind: api.KindTable, Obj: 11},
		frameF: {Kind: api.KindFrame, Obj: 12, Rights: 3}, frameG: {Kind: api.KindFrame, Obj: 13, Rights: 1}, control: {Kind: api.KindControl},
		poolQ: {Kind: api.KindPool, Obj: 15}, end: {Kind: api.KindEndpoint, Obj: 14, Rights: 7}, node: {Kind: api.KindNode, Obj: 1, Bits: 8},
	} {
		is(t, "Root", r.Hold().Root(at(i), c), api.OK)
	}
	is(t, "Copy", r.Hold().Copy(at(frameF), at(copyF), 7), api.OK)
	is(t, "Enable", vspace.Enable(r, at(control), at(poolP)), api.OK)
	is(t, "Assign", vspace.Assign(r, at(poolP), at(rootA)), api.OK)
	return r
}

// mapped is the fixture with T on level 1 and U on level 2 of page 0 of the root 5.
func mapped(t *testing.T) *realm.Realm {
	t.Helper()
	r := fixture(t)
	is(t, "MapTable(T)", vspace.MapTable(r, at(tableT), at(rootA), 0), api.OK)
	is(t, "MapTable(U)", vspace.MapTable(r, at(tableU), at(rootA), 0), api.OK)
	return r
}

func memory(r *realm.Realm) [][]uint64 {
	var all [][]uint64
	for f := range r.Mem().Frames() {
		w, _ := r.Mem().Words(f)
		all = append(all, w)
	}
	return all
}

// same runs a call that must change nothing.
func same(t *testing.T, r *realm.Realm, call string, want api.Errno, do func() api.Errno) {
	t.Helper()
	view, words := r.View(), memory(r)
	c0, c1 := r.Cores().All(0), r.Cores().All(1)
	is(t, call, do(), want)
	if !equal(r.View(), view) || !equal(memory(r), words) || !equal(r.Cores().All(0), c0) || !equal(r.Cores().All(1), c1) {
		t.Errorf("%s returned %d and changed something", call, want)
	}
}

func word(t *testing.T, r *realm.Realm, addr int, want uint64) {
	t.Helper()
	if w, _ := r.Mem().Load(uint64(addr)); w != want {
		t.Errorf("the word at %d is %x; want %x", addr, w, want)
	}
}

func place(t *testing.T, r *realm.Realm, id, serial, page, level int, live bool) {
	t.Helper()
	x, _ := r.Arena().Get(id)
	if x.Serial != serial || x.Page != page || x.Level != level || vspace.TableLive(r, id) != live {
		t.Errorf("the table %d: %+v, live %v; want %d, %d, %d, %v", id, x, vspace.TableLive(r, id), serial, page, level, live)
	}
}

func frame(t *testing.T, r *realm.Realm, index, serial, page int, live bool) {
	t.Helper()
	c, _ := r.Hold().Get(at(index))
	if c.Serial != serial || c.Page != page || vspace.FrameLive(r, c) != live {
		t.Errorf("the frame in slot %d: %+v, live %v; want %d, %d, %v", index, c, vspace.FrameLive(r, c), serial, page, live)
	}
}

// leaf checks what a walk from the root 5 finds; a frame of 0 stands for nothing.
func leaf(t *testing.T, r *realm.Realm, page, f, rights int) {
	t.Helper()
	e, code := walk.Walk(r.Mem(), 4, page)
	if f == 0 {
		if code == api.OK {
			t.Errorf("page %d leads to %+v", page, e)
		}
		return
	}
	if code != api.OK || e.Frame != f || e.Read != (rights&1 != 0) || e.Write != (rights&2 != 0) {
		t.Errorf("page %d leads to %+v, %d; want %d, %d", page, e, code, f, rights)
	}
}

// prefetch fills the caches of both cores, which walk the root 5.
func prefetch(r *realm.Realm, pages ...int) {
	for core := range 2 {
		r.Cores().Set(core, 4, 1)
		for _, page := range pages {
			r.Cores().Prefetch(core, r.Mem(), page)
		}
	}
}

// cached checks which pages of space 1 both caches have, among the first 16.
func cached(t *testing.T, r *realm.Realm, pages ...int) {
	t.Helper()
	for core := range 2 {
		var got []int
		for page := range 16 {
			for _, x := range r.Cores().All(core) {
				if x.Page == page && x.Space == 1 {
					got = append(got, page)
				}
			}
		}
		if len(got) != len(pages) || len(got) > 0 && !equal(got, pages) {
			t.Errorf("the cache of core %d has the pages %v; want %v", core, got, pages)
		}
	}
}

func TestP24_Example(t *testing.T) {
	r := fixture(t)
	is(t, "MapFrame", vspace.MapFrame(r, at(frameF), at(rootA), 0, 3), api.ErrNoTable)
	is(t, "MapTable(T)", vspace.MapTable(r, at(tableT), at(rootA), 0), api.OK)
	is(t, "MapTable(U)", vspace.MapTable(r, at(tableU), at(rootA), 0), api.OK)
	is(t, "MapTable(T)", vspace.MapTable(r, at(tableT), at(rootA), 64), api.ErrMapped)
	is(t, "MapFrame", vspace.MapFrame(r, at(frameF), at(rootA), 0, 1), api.OK)
	leaf(t, r, 0, 11, 1)
	is(t, "MapFrame", vspace.MapFrame(r, at(frameF), at(rootA), 0, 3), api.OK)
	leaf(t, r, 0, 11, 3)
	is(t, "MapFrame", vspace.MapFrame(r, at(frameF), at(rootA), 64, 3), api.ErrMapped)
	is(t, "UnmapTable(U)", vspace.UnmapTable(r, at(tableU)), api.OK)
	frame(t, r, frameF, 1, 0, false)
	is(t, "UnmapFrame", vspace.UnmapFrame(r, at(frameF)), api.OK)
}

func TestP24_1TableLive(t *testing.T) {
	r := mapped(t)
	for _, id := range []int{0, 1, 5, 7, 12, 13, 99, -1, math.MinInt, math.MaxInt} {
		if vspace.TableLive(r, id) {
			t.Errorf("TableLive(%d)", id)
		}
	}
	place(t, r, 8, 1, 0, 1, true)
	place(t, r, 9, 1, 0, 2, true)
	place(t, r, 10, 0, 0, 0, false)
	// Another serial, page or level in the record.
	for _, x := range [][3]int{{33, 0, 1}, {2, 0, 1}, {1, 64, 1}, {1, 0, 2}} {
		r.Arena().SetPlace(8, x[0], x[1], x[2])
		place(t, r, 8, x[0], x[1], x[2], false)
	}
	r.Arena().SetPlace(8, 1, 63, 1)
	place(t, r, 8, 1, 63, 1, true)
	r.Arena().SetPlace(8, 1, 0, 1)
	// Another word in the entry: none, a leaf, another frame, no form.
	for _, w := range []uint64{0, 0x707, 0x801, 0x703, 0x711} {
		r.Mem().Store(4*64, w)
		place(t, r, 8, 1, 0, 1, false)
		if w != 0x801 {
			place(t, r, 9, 1, 0, 2, false)
		}
	}
	r.Mem().Store(4*64, 0x701)
	place(t, r, 8, 1, 0, 1, true)
	place(t, r, 9, 1, 0, 2, true)
	r.Asids().Unassign(5)
	place(t, r, 8, 1, 0, 1, false)
	place(t, r, 9, 1, 0, 2, false)
}

func TestP24_1FrameLive(t *testing.T) {
	r := mapped(t)
	is(t, "MapFrame", vspace.MapFrame(r, at(frameF), at(rootA), 3*64, 3), api.OK)
	good := api.Cap{Kind: api.KindFrame, Obj: 12, Rights: 3, Serial: 1, Page: 3}
	live := func(c api.Cap, want bool) {
		t.Helper()
		if got := vspace.FrameLive(r, c); got != want {
			t.Errorf("FrameLive(%+v) = %v", c, got)
		}
	}
	live(good, true)
	read := good
	read.Rights = 1
	live(read, true)
	for i := range 9 {
		c := good
		switch i {
		case 0:
			c.Kind = api.KindEndpoint
		case 1:
			c.Obj = 13
		case 2:
			c.Obj = 99
		case 3:
			c.Rights = 0
		case 4:
			c.Serial = 33
		case 5:
			c.Page = 4
		case 6:
			c.Serial, c.Page = 0, 0
		case 7:
			c.Badge = 1
		case 8:
			c.Page = 3 + 64
		}
		live(c, false)
	}
	live(api.Cap{}, false)
	live(api.Cap{Kind: api.KindTable, Obj: 8}, false)
	// A capability of KindFrame whose object is a table.
	r.Mem().Store(8*64+3*8, 0x707)
	live(api.Cap{Kind: api.KindFrame, Obj: 8, Rights: 3, Serial: 1, Page: 3}, false)
	live(good, false)
	for _, w := range []uint64{0, 0xb01, 0xb03, 0xc07, 0xb11} {
		r.Mem().Store(8*64+3*8, w)
		live(good, false)
	}
	r.Mem().Store(8*64+3*8, 0xb0b)
	live(good, true)
	r.Asids().Unassign(5)
	live(good, false)
}

func TestP24_2MapTable(t *testing.T) {
	r := fixture(t)
	table := func(index int, va uint64) func() api.Errno {
		return func() api.Errno { return vspace.MapTable(r, at(index), at(rootA), va) }
	}
	is(t, "MapTable(T)", table(tableT, 0)(), api.OK)
	place(t, r, 8, 1, 0, 1, true)
	word(t, r, 4*64, 0x701)
	for i := range 8 {
		word(t, r, 7*64+i*8, 0)
		word(t, r, 8*64+i*8, 0xb07)
	}
	is(t, "MapTable(U)", table(tableU, 7*512+100)(), api.OK)
	place(t, r, 9, 1, 57, 2, true)
	word(t, r, 7*64+7*8, 0x801)
	for i := range 8 {
		word(t, r, 8*64+i*8, 0)
	}
	same(t, r, "both levels are taken", api.ErrFull, table(tableV, 7*512))
	same(t, r, "a live table", api.ErrMapped, table(tableT, 0))
	same(t, r, "a live table elsewhere", api.ErrMapped, table(tableU, 32767))
	is(t, "MapTable(V)", table(tableV, 32767)(), api.OK)
	place(t, r, 10, 1, 511, 1, true)
	word(t, r, 4*64+7*8, 0x901)
	is(t, "MapTable(W)", table(tableW, 32767)(), api.OK)
	place(t, r, 11, 1, 511, 2, true)
	word(t, r, 9*64+7*8, 0xa01)
}

func TestP24_2MapTableErrors(t *testing.T) {
	r := fixture(t)
	table := func(s, root api.Slot, va uint64) func() api.Errno {
		return func() api.Errno { return vspace.MapTable(r, s, root, va) }
	}
	for _, s := range append([]api.Slot{at(empty), at(rootA), at(frameF), at(end), at(control), at(node), at(poolP)}, nowhere...) {
		same(t, r, "no table", api.ErrKind, table(s, at(rootA), 0))
		same(t, r, "no table, no number", api.ErrKind, table(s, at(rootB), 1<<40))
	}
	for _, s := range append([]api.Slot{at(empty), at(tableT), at(frameF), at(end), at(control), at(node), at(poolP)}, nowhere...) {
		same(t, r, "no root", api.ErrKind, table(at(tableT), s, 0))
	}
	same(t, r, "no number", api.ErrStale, table(at(tableT), at(rootB), 0))
	same(t, r, "no number, far", api.ErrStale, table(at(tableT), at(rootB), 32768))
	for _, va := range []uint64{32768, 1 << 40, math.MaxUint64} {
		same(t, r, "far", api.ErrRange, table(at(tableT), at(rootA), va))
	}
	is(t, "MapTable", table(at(tableT), at(rootA), 0)(), api.OK)
	same(t, r, "far, live", api.ErrRange, table(at(tableT), at(rootA), 32768))
	// Entries that cannot be read count as taken: no form, a leaf, a frame beyond.
	for _, w := range []uint64{0x103, 0x111, 0xb07, 0x3f01} {
		r.Mem().Store(4*64+8, w)
		same(t, r, "an entry on level 1 that leads nowhere", api.ErrFull, table(at(tableU), at(rootA), 4096))
	}
	for _, w := range []uint64{0x103, 0x111, 0xb07, 0x3f01, 0xb01} {
		r.Mem().Store(7*64, w)
		same(t, r, "an entry on level 2 that is taken", api.ErrFull, table(at(tableU), at(rootA), 0))
	}
	is(t, "MapTable", table(at(tableU), at(rootA), 512)(), api.OK)
}

func TestP24_2UnmapTable(t *testing.T) {
	r := mapped(t)
	for _, s := range append([]api.Slot{at(empty), at(rootA), at(frameF), at(end)}, nowhere...) {
		same(t, r, "no table", api.ErrKind, func() api.Errno { return vspace.UnmapTable(r, s) })
	}
	is(t, "MapFrame", vspace.MapFrame(r, at(frameF), at(rootA), 0, 3), api.OK)
	is(t, "MapFrame", vspace.MapFrame(r, at(frameG), at(rootA), 64, 1), api.OK)
	prefetch(r, 0, 1)
	cached(t, r, 0, 1)
	r.Cores().Set(1, 5, 2)
	is(t, "UnmapTable(U)", vspace.UnmapTable(r, at(tableU)), api.OK)
	place(t, r, 9, 0, 0, 0, false)
	place(t, r, 8, 1, 0, 1, true)
	word(t, r, 7*64, 0)
	cached(t, r)
	frame(t, r, frameF, 1, 0, false)
	leaf(t, r, 0, 0, 0)
	// A table that is not live: only its record changes.
	is(t, "MapTable(U)", vspace.MapTable(r, at(tableU), at(rootA), 0), api.OK)
	leaf(t, r, 0, 0, 0)
	is(t, "MapFrame", vspace.MapFrame(r, at(frameF), at(rootA), 0, 3), api.OK)
	is(t, "UnmapTable(T)", vspace.UnmapTable(r, at(tableT)), api.OK)
	place(t, r, 9, 1, 0, 2, false)
	is(t, "MapTable(V)", vspace.MapTable(r, at(tableV), at(rootA), 0), api.OK)
	is(t, "MapTable(W)", vspace.MapTable(r, at(tableW), at(rootA), 0), api.OK)
	is(t, "MapFrame", vspace.MapFrame(r, at(frameG), at(rootA), 0, 1), api.OK)
	prefetch(r, 0)
	is(t, "UnmapTable(U)", vspace.UnmapTable(r, at(tableU)), api.OK)
	place(t, r, 9, 0, 0, 0, false)
	leaf(t, r, 0, 12, 1)
	cached(t, r, 0)
	is(t, "UnmapTable(U) again", vspace.UnmapTable(r, at(tableU)), api.OK)
	leaf(t, r, 0, 12, 1)
}

func TestP24_3MapFrame(t *testing.T) {
	for _, rights := range []int{1, 2, 3} {
		for mask := 1; mask <= 3; mask++ {
			r := mapped(t)
			c := api.Cap{Kind: api.KindFrame, Obj: 12, Rights: mask}
			is(t, "Set", r.Hold().Set(at(frameF), c), api.OK)
			do := func() api.Errno { return vspace.MapFrame(r, at(frameF), at(rootA), 5*64, rights) }
			if mask&rights == 0 {
				same(t, r, "no such rights", api.ErrRights, do)
				continue
			}
			is(t, "MapFrame", do(), api.OK)
			leaf(t, r, 5, 11, mask&rights)
			word(t, r, 8*64+5*8, uint64(0xb03|mask&rights<<2))
			c.Serial, c.Page = 1, 5
			if got, _ := r.Hold().Get(at(frameF)); got != c {
				t.Errorf("the capability: %+v", got)
			}
			frame(t, r, copyF, 0, 0, false)
		}
	}
}

func TestP24_3MapFrameErrors(t *testing.T) {
	r := fixture(t)
	do := func(s, root api.Slot, va uint64, rights int) func() api.Errno {
		return func() api.Errno { return vspace.MapFrame(r, s, root, va, rights) }
	}
	for _, s := range append([]api.Slot{at(empty), at(rootA), at(tableT), at(end), at(control), at(node), at(poolP)}, nowhere...) {
		same(t, r, "no frame", api.ErrKind, do(s, at(rootA), 0, 3))
	}
	for _, s := range append([]api.Slot{at(empty), at(tableT), at(frameF), at(end), at(control), at(node), at(poolP)}, nowhere...) {
		same(t, r, "no root", api.ErrKind, do(at(frameF), s, 1<<40, 9))
	}
	same(t, r, "no number", api.ErrStale, do(at(frameF), at(rootB), 32768, 0))
	for _, va := range []uint64{32768, 32769, math.MaxUint64} {
		same(t, r, "far", api.ErrRange, do(at(frameF), at(rootA), va, 0))
	}
	for _, va := range []uint64{1, 8, 32, 63, 65, 32767} {
		same(t, r, "not aligned", api.ErrAlign, do(at(frameF), at(rootA), va, 0))
	}
	for _, rights := range []int{0, 4, 5, 7, -1, 8, math.MinInt, math.MaxInt} {
		same(t, r, "bad rights", api.ErrRights, do(at(frameF), at(rootA), 0, rights))
	}
	same(t, r, "rights that it has not", api.ErrRights, do(at(frameG), at(rootA), 0, 2))
	same(t, r, "no table", api.ErrNoTable, do(at(frameF), at(rootA), 0, 3))
	is(t, "MapTable", vspace.MapTable(r, at(tableT), at(rootA), 0), api.OK)
	same(t, r, "no table", api.ErrNoTable, do(at(frameF), at(rootA), 0, 3))
	is(t, "MapTable", vspace.MapTable(r, at(tableU), at(rootA), 0), api.OK)
	for _, w := range []uint64{0x103, 0x111, 1 << 50} {
		r.Mem().Store(8*64, w)
		same(t, r, "an entry of no form", api.ErrNoTable, do(at(frameF), at(rootA), 0, 3))
	}
	for _, w := range []uint64{0xb07, 0xc07, 0x101} {
		r.Mem().Store(8*64, w)
		same(t, r, "a taken entry", api.ErrFull, do(at(frameF), at(rootA), 0, 3))
	}
	r.Mem().Store(8*64, 0)
	is(t, "MapFrame", do(at(frameF), at(rootA), 0, 3)(), api.OK)
	same(t, r, "mapped elsewhere", api.ErrMapped, do(at(frameF), at(rootA), 64, 3))
	same(t, r, "mapped elsewhere, no table", api.ErrMapped, do(at(frameF), at(rootA), 4096, 3))
	same(t, r, "bad rights, mapped elsewhere", api.ErrRights, do(at(frameF), at(rootA), 64, 0))
	same(t, r, "a taken entry", api.ErrFull, do(at(frameG), at(rootA), 0, 1))
	same(t, r, "a taken entry, of the same frame", api.ErrFull, do(at(copyF), at(rootA), 0, 3))
	is(t, "the copy elsewhere", do(at(copyF), at(rootA), 64, 3)(), api.OK)
	frame(t, r, frameF, 1, 0, true)
	frame(t, r, copyF, 1, 1, true)
	is(t, "Assign", vspace.Assign(r, at(poolP), at(rootB)), api.OK)
	same(t, r, "mapped in another space", api.ErrMapped, do(at(frameF), at(rootB), 0, 3))
}

func TestP24_3MapAgain(t *testing.T) {
	r := mapped(t)
	is(t, "MapFrame", vspace.MapFrame(r, at(frameF), at(rootA), 0, 3), api.OK)
	is(t, "MapFrame", vspace.MapFrame(r, at(frameG), at(rootA), 64, 1), api.OK)
	prefetch(r, 0, 1)
	is(t, "MapFrame, fewer rights", vspace.MapFrame(r, at(frameF), at(rootA), 0, 1), api.OK)
	leaf(t, r, 0, 11, 1)
	frame(t, r, frameF, 1, 0, true)
	cached(t, r, 1)
	// A record that is not live is no bar: the table was mapped anew.
	is(t, "UnmapTable", vspace.UnmapTable(r, at(tableU)), api.OK)
	is(t, "MapTable", vspace.MapTable(r, at(tableU), at(rootA), 0), api.OK)
	frame(t, r, frameF, 1, 0, false)
	is(t, "MapFrame elsewhere", vspace.MapFrame(r, at(frameF), at(rootA), 128, 2), api.OK)
	frame(t, r, frameF, 1, 2, true)
	leaf(t, r, 2, 11, 2)
	leaf(t, r, 0, 0, 0)
	// And where another capability of the same frame is, it is live again.
	is(t, "MapFrame of the copy", vspace.MapFrame(r, at(copyF), at(rootA), 64, 1), api.OK)
	is(t, "MapFrame, full", vspace.MapFrame(r, at(frameG), at(rootA), 64, 1), api.ErrFull)
}

func TestP24_3UnmapFrame(t *testing.T) {
	r := mapped(t)
	for _, s := range append([]api.Slot{at(empty), at(rootA), at(tableT), at(end)}, nowhere...) {
		same(t, r, "no frame", api.ErrKind, func() api.Errno { return vspace.UnmapFrame(r, s) })
	}
	is(t, "MapFrame", vspace.MapFrame(r, at(frameF), at(rootA), 0, 3), api.OK)
	is(t, "MapFrame", vspace.MapFrame(r, at(frameG), at(rootA), 64, 1), api.OK)
	prefetch(r, 0, 1)
	same(t, r, "not mapped", api.OK, func() api.Errno { return vspace.UnmapFrame(r, at(copyF)) })
	is(t, "UnmapFrame", vspace.UnmapFrame(r, at(frameF)), api.OK)
	frame(t, r, frameF, 0, 0, false)
	word(t, r, 8*64, 0)
	leaf(t, r, 0, 0, 0)
	leaf(t, r, 1, 12, 1)
	cached(t, r, 1)
	if c, _ := r.Hold().Get(at(frameF)); c != (api.Cap{Kind: api.KindFrame, Obj: 12, Rights: 3}) {
		t.Errorf("the capability: %+v", c)
	}
	// A record that is not live: what is there now stays.
	is(t, "UnmapTable", vspace.UnmapTable(r, at(tableU)), api.OK)
	is(t, "MapTable", vspace.MapTable(r, at(tableU), at(rootA), 0), api.OK)
	is(t, "MapFrame", vspace.MapFrame(r, at(frameF), at(rootA), 64, 3), api.OK)
	prefetch(r, 1)
	frame(t, r, frameG, 1, 1, false)
	is(t, "UnmapFrame", vspace.UnmapFrame(r, at(frameG)), api.OK)
	frame(t, r, frameG, 0, 0, false)
	leaf(t, r, 1, 11, 3)
	cached(t, r, 1)
}

func TestP24_4EnableAssign(t *testing.T) {
	r := fixture(t)
	for _, s := range append([]api.Slot{at(empty), at(rootA), at(poolQ)}, nowhere...) {
		same(t, r, "no control", api.ErrKind, func() api.Errno { return vspace.Enable(r, s, at(poolQ)) })
	}
	for _, s := range append([]api.Slot{at(empty), at(rootA), at(control)}, nowhere...) {
		same(t, r, "no pool", api.ErrKind, func() api.Errno { return vspace.Enable(r, at(control), s) })
		same(t, r, "no pool", api.ErrKind, func() api.Errno { return vspace.Assign(r, s, at(rootB)) })
	}
	for _, s := range append([]api.Slot{at(empty), at(tableT), at(control), at(poolP)}, nowhere...) {
		same(t, r, "no root", api.ErrKind, func() api.Errno { return vspace.Assign(r, at(poolP), s) })
	}
	same(t, r, "enabled already", api.ErrBusy, func() api.Errno { return vspace.Enable(r, at(control), at(poolP)) })
	same(t, r, "not enabled", api.ErrArg, func() api.Errno { return vspace.Assign(r, at(poolQ), at(rootB)) })
	r.Mem().Store(4*64+16, 9)
	same(t, r, "has a number", api.ErrMapped, func() api.Errno { return vspace.Assign(r, at(poolP), at(rootA)) })
	for i := range 8 {
		r.Mem().Store(uint64(5*64+i*8), 0x701)
		r.Mem().Store(uint64(6*64+i*8), 9)
	}
	is(t, "Assign", vspace.Assign(r, at(poolP), at(rootB)), api.OK)
	for i := range 8 {
		word(t, r, 5*64+i*8, 0)
		word(t, r, 6*64+i*8, 9)
	}
	word(t, r, 4*64+16, 9)
	if n, s, ok := r.Asids().Of(6); n != 2 || s != 2 || !ok {
		t.Errorf("Of(6) = %d, %d, %v", n, s, ok)
	}
	is(t, "Enable", vspace.Enable(r, at(control), at(poolQ)), api.OK)
	if p := r.Asids().Pools(); p[0].Obj != 7 || p[1].Obj != 15 {
		t.Errorf("Pools = %+v", p)
	}
	for i := 2; i < 8; i++ {
		r.Asids().AddPool(100 + i)
	}
	r.Asids().DropPool(15)
	same(t, r, "no place", api.ErrFull, func() api.Errno { return vspace.Enable(r, at(control), at(poolQ)) })
}

func TestP24_4Unhook(t *testing.T) {
	r := mapped(t)
	is(t, "MapFrame", vspace.MapFrame(r, at(frameF), at(rootA), 0, 3), api.OK)
	is(t, "MapFrame", vspace.MapFrame(r, at(frameG), at(rootA), 64, 1), api.OK)
	prefetch(r, 0, 1)
	for _, c := range []api.Cap{{}, {Kind: api.KindFrame, Obj: 12, Rights: 3}, {Kind: api.KindFrame, Obj: 13, Rights: 3, Serial: 1}, {Kind: api.KindTable, Obj: 8}} {
		same(t, r, "Unhook of what is not live", api.OK, func() api.Errno {
			if vspace.Unhook(r, c) {
				t.Errorf("Unhook(%+v)", c)
			}
			return api.OK
		})
	}
	c, _ := r.Hold().Clear(at(frameF))
	if !vspace.Unhook(r, c) || vspace.Unhook(r, c) {
		t.Error("Unhook, twice")
	}
	leaf(t, r, 0, 0, 0)
	leaf(t, r, 1, 12, 1)
	cached(t, r, 1)
}

func TestP24_4Off(t *testing.T) {
	r := mapped(t)
	for _, id := range []int{0, 1, 6, 10, 12, 14, 15, 99, -1, math.MinInt} {
		same(t, r, "Off of nothing", api.OK, func() api.Errno {
			if vspace.Off(r, id) {
				t.Errorf("Off(%d)", id)
			}
			return api.OK
		})
	}
	is(t, "MapFrame", vspace.MapFrame(r, at(frameF), at(rootA), 0, 3), api.OK)
	prefetch(r, 0)
	if !vspace.Off(r, 9) || vspace.Off(r, 9) {
		t.Error("Off of a table, twice")
	}
	place(t, r, 9, 0, 0, 0, false)
	word(t, r, 7*64, 0)
	cached(t, r)

	is(t, "MapTable", vspace.MapTable(r, at(tableU), at(rootA), 0), api.OK)
	is(t, "MapFrame", vspace.MapFrame(r, at(copyF), at(rootA), 0, 3), api.OK)
	prefetch(r, 0)
	// A table that is not live keeps its record.
	is(t, "UnmapTable", vspace.UnmapTable(r, at(tableT)), api.OK)
	if vspace.Off(r, 9) {
		t.Error("Off of a table that is not live")
	}
	place(t, r, 9, 1, 0, 2, false)

	is(t, "MapTable", vspace.MapTable(r, at(tableT), at(rootA), 0), api.OK)
	is(t, "MapTable", vspace.MapTable(r, at(tableV), at(rootA), 0), api.OK)
	is(t, "MapFrame", vspace.MapFrame(r, at(copyF), at(rootA), 0, 3), api.OK)
	prefetch(r, 0)
	if !vspace.Off(r, 5) || vspace.Off(r, 5) {
		t.Error("Off of a root, twice")
	}
	if _, _, ok := r.Asids().Of(5); ok {
		t.Error("Off left the number of a root")
	}
	cached(t, r)
	place(t, r, 8, 1, 0, 1, false)
	frame(t, r, copyF, 1, 0, false)
	is(t, "Assign", vspace.Assign(r, at(poolP), at(rootA)), api.OK)
	leaf(t, r, 0, 0, 0)
	place(t, r, 8, 1, 0, 1, false)
}

func TestP24_4OffOfAPool(t *testing.T) {
	r := mapped(t)
	is(t, "MapFrame", vspace.MapFrame(r, at(frameF), at(rootA), 0, 3), api.OK)
	is(t, "Assign", vspace.Assign(r, at(poolP), at(rootB)), api.OK)
	is(t, "MapTable", vspace.MapTable(r, at(tableV), at(rootB), 0), api.OK)
	is(t, "MapTable", vspace.MapTable(r, at(tableW), at(rootB), 0), api.OK)
	is(t, "MapFrame", vspace.MapFrame(r, at(frameG), at(rootB), 0, 1), api.OK)
	prefetch(r, 0)
	r.Cores().Set(1, 5, 2)
	r.Cores().Prefetch(1, r.Mem(), 0)
	r.Cores().Set(0, 4, 20)
	r.Cores().Prefetch(0, r.Mem(), 0)
	if !vspace.Off(r, 7) || vspace.Off(r, 7) {
		t.Error("Off of a pool, twice")
	}
	cached(t, r)
	if a, b := r.Cores().All(0), r.Cores().All(1); len(a) != 1 || a[0].Space != 20 || len(b) != 0 {
		t.Errorf("cached: %+v, %+v", a, b)
	}
	if p := r.Asids().Pools(); p[0] != (api.Pool{Dead: true}) {
		t.Errorf("Pools = %+v", p)
	}
	frame(t, r, frameF, 1, 0, false)
	frame(t, r, frameG, 2, 0, false)
}

func TestP24_5NothingShowsThrough(t *testing.T) {
	r := mapped(t)
	is(t, "MapFrame", vspace.MapFrame(r, at(frameF), at(rootA), 0, 3), api.OK)
	for range 3 {
		is(t, "UnmapTable(T)", vspace.UnmapTable(r, at(tableT)), api.OK)
		is(t, "MapTable(T)", vspace.MapTable(r, at(tableT), at(rootA), 4096), api.OK)
		leaf(t, r, 64, 0, 0)
		place(t, r, 9, 1, 0, 2, false)
		is(t, "UnmapTable(T)", vspace.UnmapTable(r, at(tableT)), api.OK)
		is(t, "MapTable(T)", vspace.MapTable(r, at(tableT), at(rootA), 0), api.OK)
		place(t, r, 9, 1, 0, 2, false)
		is(t, "MapTable(U)", vspace.MapTable(r, at(tableU), at(rootA), 0), api.OK)
		leaf(t, r, 0, 0, 0)
		is(t, "MapFrame", vspace.MapFrame(r, at(frameF), at(rootA), 0, 3), api.OK)
		leaf(t, r, 0, 11, 3)
	}
}

func TestNilRealm(t *testing.T) {
	for i, code := range []api.Errno{
		vspace.MapTable(nil, at(0), at(0), 1<<40), vspace.UnmapTable(nil, at(0)), vspace.MapFrame(nil, at(0), at(0), 1<<40, 9),
		vspace.UnmapFrame(nil, at(0)), vspace.Enable(nil, at(0), at(0)), vspace.Assign(nil, at(0), at(0)),
	} {
		if code != api.ErrNil {
			t.Errorf("call %d of a nil realm: %d", i, code)
		}
	}
	if vspace.TableLive(nil, 8) || vspace.FrameLive(nil, api.Cap{Kind: api.KindFrame, Obj: 1, Rights: 1}) || vspace.Unhook(nil, api.Cap{}) || vspace.Off(nil, 8) {
		t.Error("a nil realm has something")
	}
}
