package access_test

import (
	"math"
	"testing"

	"seisin/access"
	"seisin/api"
	"seisin/cores"
	"seisin/phys"
)

// machine has root 0, whose page 0 is frame 3 with Read, page 1 frame 3 with
// Write, page 2 frame 4 with both, page 511 frame 5 with both; core 0 walks it.
func machine(t *testing.T) (*cores.Cores, *phys.Mem) {
	t.Helper()
	m, code := phys.New(10)
	if code != api.OK {
		t.Fatal(code)
	}
	c, code := cores.New(2)
	if code != api.OK {
		t.Fatal(code)
	}
	for a, w := range map[uint64]uint64{
		0: 0x101, 64: 0x201, 128: 0x307, 136: 0x30b, 144: 0x40f,
		56: 0x601, 6*64 + 56: 0x701, 7*64 + 56: 0x50f,
	} {
		m.Store(a, w)
	}
	for f := uint64(3); f <= 5; f++ {
		for i := range uint64(8) {
			m.Store(f*64+i*8, f*100+i)
		}
	}
	if code := c.Set(0, 0, 1); code != api.OK {
		t.Fatal(code)
	}
	return c, m
}

func snapshot(m *phys.Mem) []uint64 {
	var all []uint64
	for f := range m.Frames() {
		w, _ := m.Words(f)
		all = append(all, w...)
	}
	return all
}

// changed tells the indexes of the words in which a memory differs.
func changed(m *phys.Mem, before []uint64) []int {
	var at []int
	for i, w := range snapshot(m) {
		if w != before[i] {
			at = append(at, i)
		}
	}
	return at
}

func faults(t *testing.T, c *cores.Cores, m *phys.Mem, core int, va uint64, load, store int) {
	t.Helper()
	var before []uint64
	if m != nil {
		before = snapshot(m)
	}
	v, f := access.Load(c, m, core, va)
	want := api.Fault{}
	if load != api.FaultNone {
		want = api.Fault{Kind: load, Va: va}
	}
	if f != want || load != api.FaultNone && v != 0 {
		t.Errorf("Load(%d, %d) = %d, %+v; want %+v", core, va, v, f, want)
	}
	f = access.Store(c, m, core, va, 77)
	want = api.Fault{}
	if store != api.FaultNone {
		want = api.Fault{Kind: store, Va: va, Write: true}
	}
	if f != want {
		t.Errorf("Store(%d, %d) = %+v; want %+v", core, va, f, want)
	}
	if m != nil && store != api.FaultNone && len(changed(m, before)) != 0 {
		t.Errorf("P8.2: Store(%d, %d) faulted and changed %v", core, va, changed(m, before))
	}
}

func TestP8_1Load(t *testing.T) {
	c, m := machine(t)
	before := snapshot(m)
	for i := range uint64(8) {
		for va, want := range map[uint64]uint64{i * 8: 300 + i, 128 + i*8: 400 + i, 511*64 + i*8: 500 + i} {
			for range 2 {
				if v, f := access.Load(c, m, 0, va); v != want || f != (api.Fault{}) {
					t.Errorf("Load(%d) = %d, %+v; want %d", va, v, f, want)
				}
			}
		}
	}
	if len(changed(m, before)) != 0 {
		t.Error("a load changed memory")
	}
}

func TestP8_1Store(t *testing.T) {
	for i := range uint64(8) {
		for va, word := range map[uint64]int{64 + i*8: 24 + int(i), 128 + i*8: 32 + int(i), 511*64 + i*8: 40 + int(i)} {
			c, m := machine(t)
			before := snapshot(m)
			if f := access.Store(c, m, 0, va, math.MaxUint64); f != (api.Fault{}) {
				t.Errorf("Store(%d): %+v", va, f)
			}
			at := changed(m, before)
			if len(at) != 1 || at[0] != word || snapshot(m)[word] != math.MaxUint64 {
				t.Errorf("Store(%d) changed the words %v; want %d", va, at, word)
			}
		}
	}
}

func TestP8_1Faults(t *testing.T) {
	c, m := machine(t)
	faults(t, c, m, 0, 32768, api.FaultRange, api.FaultRange)
	faults(t, c, m, 0, 32769, api.FaultRange, api.FaultRange)
	faults(t, c, m, 0, math.MaxUint64, api.FaultRange, api.FaultRange)
	faults(t, c, m, 9, 1<<63, api.FaultRange, api.FaultRange)
	for off := range uint64(8) {
		want := api.FaultAlign
		if off == 0 {
			want = api.FaultMap
		}
		faults(t, c, m, 0, 320+off, want, want)
	}
	faults(t, c, m, 0, 9, api.FaultAlign, api.FaultAlign)
	faults(t, c, m, 1, 9, api.FaultAlign, api.FaultAlign)
	faults(t, c, m, 1, 8, api.FaultSpace, api.FaultSpace)
	faults(t, c, m, 2, 8, api.FaultSpace, api.FaultSpace)
	faults(t, c, m, -1, 8, api.FaultSpace, api.FaultSpace)
	faults(t, c, m, math.MaxInt, 8, api.FaultSpace, api.FaultSpace)
	faults(t, c, m, 0, 4096, api.FaultMap, api.FaultMap)
	faults(t, c, m, 0, 512, api.FaultMap, api.FaultMap)
	faults(t, c, m, 0, 192, api.FaultMap, api.FaultMap)
	faults(t, c, m, 0, 8, api.FaultNone, api.FaultRights)
	faults(t, c, m, 0, 72, api.FaultRights, api.FaultNone)
	faults(t, c, m, 0, 136, api.FaultNone, api.FaultNone)
	m.Store(192-64+24, 0x103)
	faults(t, c, m, 0, 192, api.FaultMap, api.FaultMap)
}

func TestP8_1NilObjects(t *testing.T) {
	c, m := machine(t)
	faults(t, nil, m, 0, 8, api.FaultSpace, api.FaultSpace)
	faults(t, c, nil, 0, 8, api.FaultSpace, api.FaultSpace)
	faults(t, nil, nil, 0, 8, api.FaultSpace, api.FaultSpace)
	faults(t, nil, nil, 0, 9, api.FaultAlign, api.FaultAlign)
	faults(t, nil, nil, 0, 32768, api.FaultRange, api.FaultRange)
}

func TestP8_1OffSpace(t *testing.T) {
	c, m := machine(t)
	access.Load(c, m, 0, 0)
	c.Set(0, -1, 0)
	faults(t, c, m, 0, 0, api.FaultSpace, api.FaultSpace)
}

func TestP8_1CachedRights(t *testing.T) {
	c, m := machine(t)
	// A load that lacks the right has cached the translation all the same.
	faults(t, c, m, 0, 72, api.FaultRights, api.FaultNone)
	m.Store(136, 0)
	if f := access.Store(c, m, 0, 72, 5); f != (api.Fault{}) {
		t.Errorf("a cached page: %+v", f)
	}
	c.DropPage(1, 1)
	faults(t, c, m, 0, 72, api.FaultMap, api.FaultMap)
}

func TestP8_1FrameOfAnotherMemory(t *testing.T) {
	c, m := machine(t)
	m.Store(128, 0x90f)
	if _, f := access.Load(c, m, 0, 0); f != (api.Fault{}) {
		t.Fatalf("%+v", f)
	}
	small, _ := phys.New(9)
	faults(t, c, small, 0, 0, api.FaultMap, api.FaultMap)
}
