package walk_test

import (
	"math"
	"testing"

	"seisin/api"
	"seisin/phys"
	"seisin/walk"
)

// set stores words at addresses of a new memory of four frames.
func set(t *testing.T, words map[uint64]uint64) *phys.Mem {
	t.Helper()
	m, code := phys.New(4)
	if code != api.OK {
		t.Fatal(code)
	}
	for a, w := range words {
		if code := m.Store(a, w); code != api.OK {
			t.Fatal(a, code)
		}
	}
	return m
}

// chapter is the memory of the chapter's example.
func chapter() map[uint64]uint64 {
	return map[uint64]uint64{0: 0x101, 64: 0x201, 128: 0x307}
}

func at(t *testing.T, m *phys.Mem, root, page, level int, addr uint64, want api.Errno) {
	t.Helper()
	if got, code := walk.At(m, root, page, level); got != addr || code != want {
		t.Errorf("At(%d, %d, %d) = %d, %d; want %d, %d", root, page, level, got, code, addr, want)
	}
}

func leaf(t *testing.T, m *phys.Mem, root, page int, e api.Entry, want api.Errno) {
	t.Helper()
	if got, code := walk.Walk(m, root, page); got != e || code != want {
		t.Errorf("Walk(%d, %d) = %+v, %d; want %+v, %d", root, page, got, code, e, want)
	}
}

func depth(t *testing.T, m *phys.Mem, root, page, want int) {
	t.Helper()
	if got := walk.Depth(m, root, page); got != want {
		t.Errorf("Depth(%d, %d) = %d; want %d", root, page, got, want)
	}
}

var read3 = api.Entry{Valid: true, Leaf: true, Read: true, Frame: 3}

func TestP5_1Example(t *testing.T) {
	m := set(t, chapter())
	leaf(t, m, 0, 0, read3, api.OK)
	leaf(t, m, 0, 1, api.Entry{}, api.ErrFault)
	leaf(t, m, 0, 64, api.Entry{}, api.ErrFault)
	at(t, m, 0, 0, 1, 0, api.OK)
	at(t, m, 0, 0, 2, 64, api.OK)
	at(t, m, 0, 0, 3, 128, api.OK)
	at(t, m, 0, 1, 3, 136, api.OK)
	at(t, m, 0, 8, 2, 72, api.OK)
	at(t, m, 0, 8, 3, 0, api.ErrFault)
	at(t, m, 0, 64, 1, 8, api.OK)
	at(t, m, 0, 64, 2, 0, api.ErrFault)
	at(t, m, 3, 511, 1, 248, api.OK)
	depth(t, m, 0, 64, 1)
	depth(t, m, 0, 8, 2)
	depth(t, m, 0, 0, 3)
	depth(t, m, 0, 7, 3)
}

func TestP5_1EveryIndex(t *testing.T) {
	for page := range 512 {
		a, b, c := uint64(page/64), uint64(page/8%8), uint64(page%8)
		m := set(t, map[uint64]uint64{128 + a*8: 0x301, 192 + b*8: 0x001, c * 8: 0x20f})
		at(t, m, 2, page, 1, 128+a*8, api.OK)
		at(t, m, 2, page, 2, 192+b*8, api.OK)
		at(t, m, 2, page, 3, c*8, api.OK)
		leaf(t, m, 2, page, api.Entry{Valid: true, Leaf: true, Read: true, Write: true, Frame: 2}, api.OK)
		depth(t, m, 2, page, 3)
		for other := range 512 {
			if other != page {
				if _, code := walk.Walk(m, 2, other); code != api.ErrFault {
					t.Fatalf("page %d is mapped, Walk of %d: %d", page, other, code)
				}
			}
		}
	}
}

func TestP5_1BadArguments(t *testing.T) {
	m := set(t, chapter())
	for _, root := range []int{math.MinInt, -1, 4, 63, 64, 1 << 58, math.MaxInt} {
		at(t, m, root, 0, 1, 0, api.ErrRange)
		leaf(t, m, root, 0, api.Entry{}, api.ErrRange)
		depth(t, m, root, 0, 0)
	}
	for _, page := range []int{math.MinInt, -1, 512, 1 << 40, math.MaxInt} {
		at(t, m, 0, page, 1, 0, api.ErrRange)
		leaf(t, m, 0, page, api.Entry{}, api.ErrRange)
		depth(t, m, 0, page, 0)
	}
	for _, level := range []int{math.MinInt, -1, 0, 4, math.MaxInt} {
		at(t, m, 0, 0, level, 0, api.ErrRange)
	}
	at(t, nil, -1, -1, -1, 0, api.ErrNil)
	leaf(t, nil, -1, 0, api.Entry{}, api.ErrNil)
	depth(t, nil, 0, 0, 0)
}

func TestP5_1BadTables(t *testing.T) {
	// A word that no entry has, a leaf, and a table beyond the memory.
	for _, w := range []uint64{0x103, 0x111, 0x100, 1 << 63, 0x401, 0x3f01, 0x107, 0x10b, 0x407} {
		words := chapter()
		words[0] = w
		m := set(t, words)
		at(t, m, 0, 0, 1, 0, api.OK)
		at(t, m, 0, 0, 2, 0, api.ErrForm)
		at(t, m, 0, 0, 3, 0, api.ErrForm)
		leaf(t, m, 0, 0, api.Entry{}, api.ErrForm)
		depth(t, m, 0, 0, 1)

		words = chapter()
		words[64] = w
		m = set(t, words)
		at(t, m, 0, 0, 2, 64, api.OK)
		at(t, m, 0, 0, 3, 0, api.ErrForm)
		leaf(t, m, 0, 0, api.Entry{}, api.ErrForm)
		depth(t, m, 0, 0, 2)
	}
	words := chapter()
	words[0] = 0x301
	m := set(t, words)
	at(t, m, 0, 0, 2, 192, api.OK)
	at(t, m, 0, 0, 3, 0, api.ErrFault)
}

func TestP5_1BadLeaves(t *testing.T) {
	// A word that no entry has, a table, and a frame beyond the memory.
	for _, w := range []uint64{0x303, 0x317, 2, 1 << 40, 0x301, 0x407, 0x3f0f} {
		words := chapter()
		words[128] = w
		m := set(t, words)
		at(t, m, 0, 0, 3, 128, api.OK)
		leaf(t, m, 0, 0, api.Entry{}, api.ErrForm)
		depth(t, m, 0, 0, 3)
	}
	words := chapter()
	words[128] = 0x00b
	leaf(t, set(t, words), 0, 0, api.Entry{Valid: true, Leaf: true, Write: true}, api.OK)
}

func TestP5_1OnlyReads(t *testing.T) {
	m := set(t, chapter())
	before := m.Copy()
	for page := range 512 {
		walk.Walk(m, 0, page)
		walk.Depth(m, 0, page)
	}
	for a := uint64(0); a < 256; a += 8 {
		v, _ := m.Load(a)
		if w, _ := before.Load(a); v != w {
			t.Errorf("the word at %d changed", a)
		}
	}
}
