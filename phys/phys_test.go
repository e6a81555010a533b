package phys_test

import (
	"math"
	"slices"
	"testing"

	"seisin/api"
	"seisin/phys"
)

func mem(t *testing.T, frames int) *phys.Mem {
	t.Helper()
	m, code := phys.New(frames)
	if m == nil || code != api.OK {
		t.Fatalf("New(%d): %d", frames, code)
	}
	return m
}

// fill gives every word a value of its own, other than 0.
func fill(t *testing.T, m *phys.Mem) {
	t.Helper()
	for a := uint64(0); a < uint64(m.Frames()*api.FrameBytes); a += 8 {
		if code := m.Store(a, 1<<63|a+1); code != api.OK {
			t.Fatalf("Store(%d): %d", a, code)
		}
	}
}

func TestP2_1New(t *testing.T) {
	for _, n := range []int{math.MinInt, -1, 0, 65, 1 << 40, math.MaxInt} {
		if m, code := phys.New(n); m != nil || code != api.ErrRange {
			t.Errorf("New(%d): %v, %d", n, m, code)
		}
	}
	for n := 1; n <= api.MaxFrames; n++ {
		m := mem(t, n)
		if m.Frames() != n {
			t.Errorf("Frames = %d; want %d", m.Frames(), n)
		}
		for a := uint64(0); a < uint64(n*api.FrameBytes); a += 8 {
			if v, code := m.Load(a); v != 0 || code != api.OK {
				t.Fatalf("a new memory's Load(%d) = %d, %d", a, v, code)
			}
		}
	}
}

func TestP2_1LoadStore(t *testing.T) {
	m := mem(t, 3)
	fill(t, m)
	for a := uint64(0); a < 192; a += 8 {
		if v, code := m.Load(a); v != 1<<63|a+1 || code != api.OK {
			t.Errorf("Load(%d) = %x, %d", a, v, code)
		}
	}
	if code := m.Store(72, 0); code != api.OK {
		t.Errorf("Store(72, 0): %d", code)
	}
	for a := uint64(0); a < 192; a += 8 {
		want := uint64(1<<63 | a + 1)
		if a == 72 {
			want = 0
		}
		if v, _ := m.Load(a); v != want {
			t.Errorf("after Store(72): Load(%d) = %x", a, v)
		}
	}
}

func TestP2_1BadAddresses(t *testing.T) {
	m := mem(t, 2)
	fill(t, m)
	for _, x := range []struct {
		addr uint64
		want api.Errno
	}{{1, api.ErrAlign}, {4, api.ErrAlign}, {7, api.ErrAlign}, {129, api.ErrAlign}, {math.MaxUint64, api.ErrAlign}, {128, api.ErrRange}, {136, api.ErrRange}, {1 << 63, api.ErrRange}, {1 << 32, api.ErrRange}, {math.MaxUint64 - 7, api.ErrRange}} {
		if v, code := m.Load(x.addr); v != 0 || code != x.want {
			t.Errorf("Load(%d) = %d, %d; want %d", x.addr, v, code, x.want)
		}
		if code := m.Store(x.addr, 9); code != x.want {
			t.Errorf("Store(%d): %d; want %d", x.addr, code, x.want)
		}
	}
	for a := uint64(0); a < 128; a += 8 {
		if v, _ := m.Load(a); v != 1<<63|a+1 {
			t.Errorf("a bad Store changed the word at %d", a)
		}
	}
}

func TestP2_2Zero(t *testing.T) {
	for first := -1; first <= 5; first++ {
		for n := -1; n <= 6; n++ {
			m := mem(t, 5)
			fill(t, m)
			ok := first >= 0 && first < 5 && n >= 0 && n <= 5-first
			code := m.Zero(first, n)
			if ok && code != api.OK || !ok && code != api.ErrRange {
				t.Errorf("Zero(%d, %d): %d", first, n, code)
			}
			for a := uint64(0); a < 320; a += 8 {
				f := int(a / 64)
				v, _ := m.Load(a)
				if cleared := ok && f >= first && f < first+n; cleared != (v == 0) {
					t.Errorf("Zero(%d, %d): the word at %d is %x", first, n, a, v)
				}
			}
		}
	}
	m := mem(t, 5)
	for _, x := range [][2]int{{1, math.MaxInt}, {math.MaxInt, 1}, {math.MaxInt, math.MaxInt}, {math.MinInt, 1}, {1, math.MinInt}} {
		if code := m.Zero(x[0], x[1]); code != api.ErrRange {
			t.Errorf("Zero(%d, %d): %d", x[0], x[1], code)
		}
	}
}

func TestP2_2Words(t *testing.T) {
	m := mem(t, 3)
	fill(t, m)
	for f := range 3 {
		want := []uint64{}
		for i := range 8 {
			want = append(want, 1<<63|uint64(f*64+i*8)+1)
		}
		if got, code := m.Words(f); !slices.Equal(got, want) || code != api.OK {
			t.Errorf("Words(%d) = %x, %d", f, got, code)
		}
	}
	for _, f := range []int{-1, 3, 64, math.MinInt, math.MaxInt} {
		if got, code := m.Words(f); len(got) != 0 || code != api.ErrRange {
			t.Errorf("Words(%d) = %v, %d", f, got, code)
		}
	}
	got, _ := m.Words(1)
	got[0] = 5
	if v, _ := m.Load(64); v == 5 {
		t.Error("Words shares memory with the frame")
	}
	again, _ := m.Words(1)
	if again[0] == 5 {
		t.Error("two results of Words share memory")
	}
	if code := m.Store(72, 77); code != api.OK || got[1] == 77 {
		t.Error("a Store changed an earlier result of Words")
	}
}

func TestP2_2Copy(t *testing.T) {
	m := mem(t, 4)
	fill(t, m)
	c := m.Copy()
	if c == nil || c.Frames() != 4 {
		t.Fatal("Copy has other frames")
	}
	for f := range 4 {
		a, _ := m.Words(f)
		b, _ := c.Words(f)
		if !slices.Equal(a, b) {
			t.Errorf("frame %d of the copy: %x", f, b)
		}
	}
	m.Store(0, 5)
	c.Store(8, 6)
	if v, _ := c.Load(0); v == 5 {
		t.Error("a Store into the memory changed its copy")
	}
	if v, _ := m.Load(8); v == 6 {
		t.Error("a Store into the copy changed the memory")
	}
}

func TestNilMemory(t *testing.T) {
	var m *phys.Mem
	if m.Frames() != 0 || m.Copy() != nil {
		t.Error("Frames or Copy of a nil memory")
	}
	if v, code := m.Load(4); v != 0 || code != api.ErrNil {
		t.Errorf("Load: %d, %d", v, code)
	}
	if code := m.Store(4, 1); code != api.ErrNil {
		t.Errorf("Store: %d", code)
	}
	if code := m.Zero(-1, 1); code != api.ErrNil {
		t.Errorf("Zero: %d", code)
	}
	if w, code := m.Words(-1); len(w) != 0 || code != api.ErrNil {
		t.Errorf("Words: %v, %d", w, code)
	}
}
