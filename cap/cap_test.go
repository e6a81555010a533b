package cap_test

import (
	"math"
	"slices"
	"testing"

	"seisin/api"
	"seisin/cap"
)

// may is the model: the table of the chapter, field by field.
func may(c api.Cap) bool {
	obj := c.Obj >= 1 && c.Obj <= 65535
	plain := c.Rights == 0 && c.Serial == 0 && c.Page == 0
	noNode := c.Guard == 0 && c.Bits == 0
	switch c.Kind {
	case 0, 7:
		return c.Obj == 0 && plain && noNode && c.Badge == 0
	case 1, 4, 5, 6, 9:
		return obj && plain && noNode && c.Badge == 0
	case 2:
		return obj && plain && c.Badge == 0 && c.Bits >= 0 && c.Bits <= 12 && c.Guard >= 0 && c.Guard < 1<<uint(c.Bits)
	case 3:
		place := c.Serial == 0 && c.Page == 0 || c.Serial >= 1 && c.Serial < 1<<24 && c.Page >= 0 && c.Page <= 511
		return obj && noNode && c.Badge == 0 && c.Rights >= 1 && c.Rights <= 3 && place
	case 8:
		return obj && noNode && c.Serial == 0 && c.Page == 0 && c.Rights >= 0 && c.Rights <= 7 && c.Badge < 1<<24
	}
	return false
}

// words is the model of Encode.
func words(c api.Cap) []uint64 {
	return []uint64{
		uint64(c.Kind) + uint64(c.Rights)<<4 + uint64(c.Obj)<<8 + uint64(c.Page)<<24 + uint64(c.Serial)<<40,
		c.Badge + uint64(c.Guard)<<24 + uint64(c.Bits)<<36,
	}
}

// caps are capabilities of all kinds, valid and not, around every bound.
func caps() []api.Cap {
	var all []api.Cap
	for kind := -1; kind <= 16; kind++ {
		for _, obj := range []int{0, 1, 2, 65535} {
			for r := range 9 {
				all = append(all, api.Cap{Kind: kind, Obj: obj, Rights: r})
			}
			for bits := range 14 {
				for _, guard := range []int{0, 1, 1<<uint(bits) - 1, 1 << uint(bits)} {
					all = append(all, api.Cap{Kind: kind, Obj: obj, Guard: guard, Bits: bits})
				}
			}
			for _, serial := range []int{0, 1, 33, 1<<24 - 1, 1 << 24} {
				for _, page := range []int{0, 1, 511, 512} {
					all = append(all, api.Cap{Kind: kind, Obj: obj, Rights: 3, Serial: serial, Page: page})
				}
			}
			for _, badge := range []uint64{1, 1<<24 - 1, 1 << 24, math.MaxUint64} {
				all = append(all, api.Cap{Kind: kind, Obj: obj, Badge: badge}, api.Cap{Kind: kind, Obj: obj, Rights: 7, Badge: badge})
			}
		}
	}
	return all
}

// odd are variants of a capability in which one field has another number.
func odd(c api.Cap) []api.Cap {
	var all []api.Cap
	for _, n := range []int{math.MinInt, -65536, -1, 0, 1, 65536, 1 << 32, math.MaxInt} {
		x := [7]api.Cap{c, c, c, c, c, c, c}
		x[0].Kind, x[1].Obj, x[2].Rights, x[3].Guard, x[4].Bits, x[5].Serial, x[6].Page = n, n, n, n, n, n, n
		all = append(all, x[:]...)
		y := c
		y.Badge = uint64(n)
		all = append(all, y)
	}
	return all
}

func valid() []api.Cap {
	return []api.Cap{
		{}, {Kind: api.KindControl}, {Kind: api.KindUntyped, Obj: 4}, {Kind: api.KindTable, Obj: 4}, {Kind: api.KindRoot, Obj: 65535}, {Kind: api.KindPool, Obj: 1}, {Kind: api.KindThread, Obj: 9},
		{Kind: api.KindNode, Obj: 4}, {Kind: api.KindNode, Obj: 4, Guard: 5, Bits: 3}, {Kind: api.KindNode, Obj: 4, Guard: 4095, Bits: 12},
		{Kind: api.KindFrame, Obj: 4, Rights: 1}, {Kind: api.KindFrame, Obj: 4, Rights: 2, Serial: 1}, {Kind: api.KindFrame, Obj: 4, Rights: 3, Serial: 1<<24 - 1, Page: 511},
		{Kind: api.KindEndpoint, Obj: 4}, {Kind: api.KindEndpoint, Obj: 4, Rights: 7, Badge: 1<<24 - 1},
	}
}

func TestP13_1MayEncode(t *testing.T) {
	list := caps()
	for _, c := range valid() {
		list = append(append(list, c), odd(c)...)
	}
	for _, c := range list {
		if got := cap.May(c); got != may(c) {
			t.Errorf("May(%+v) = %v", c, got)
		}
		w, code := cap.Encode(c)
		if may(c) && (!slices.Equal(w, words(c)) || code != api.OK) {
			t.Errorf("Encode(%+v) = %x, %d", c, w, code)
		}
		if !may(c) && (len(w) != 0 || code != api.ErrForm) {
			t.Errorf("Encode(%+v) = %x, %d; want ErrForm", c, w, code)
		}
	}
}

func TestP13_1Example(t *testing.T) {
	c := api.Cap{Kind: api.KindFrame, Obj: 2, Rights: 1, Serial: 3, Page: 5}
	w, code := cap.Encode(c)
	if !slices.Equal(w, []uint64{0x0000030005000213, 0}) || code != api.OK {
		t.Errorf("Encode = %x, %d", w, code)
	}
	if got, code := cap.Decode([]uint64{0x0000030005000213, 0}); got != c || code != api.OK {
		t.Errorf("Decode = %+v, %d", got, code)
	}
}

func TestP13_1DecodeErrors(t *testing.T) {
	for _, w := range [][]uint64{nil, {}, {0}, {0, 0, 0}, {7}, {7, 0, 0}, {0, 1}, {1, 0}, {0x10, 0}, {0x17, 0}, {0x207, 0}, {7, 1}, {10, 0}, {0x20a, 0}, {15, 0}, {0x203, 0}, {0x243, 0}, {0x273, 0}, {0x01000213, 0}, {0x211, 0}, {0x202, 1 << 24}, {0x202, 13 << 36}, {0x202, 15<<36 | 1<<24}, {0x202, 1<<36 | 2<<24}, {0x208, 1 << 24}, {0x208, 1 << 36}, {0x10000000208, 0}} {
		if c, code := cap.Decode(w); c != (api.Cap{}) || code != api.ErrForm {
			t.Errorf("Decode(%x) = %+v, %d", w, c, code)
		}
	}
	// A bit that is in no field.
	for _, c := range valid() {
		w := words(c)
		for at := range 64 {
			if at == 7 || at >= 33 && at < 40 {
				if x, code := cap.Decode([]uint64{w[0] | 1<<uint(at), w[1]}); x != (api.Cap{}) || code != api.ErrForm {
					t.Errorf("Decode of %+v with bit %d: %+v, %d", c, at, x, code)
				}
			}
			if at >= 40 {
				if x, code := cap.Decode([]uint64{w[0], w[1] | 1<<uint(at)}); x != (api.Cap{}) || code != api.ErrForm {
					t.Errorf("Decode of %+v with bit %d of the second word: %+v, %d", c, at, x, code)
				}
			}
		}
	}
}

func TestP13_1DecodeKeepsWords(t *testing.T) {
	buffer := []uint64{0x213, 0, 99}
	if _, code := cap.Decode(buffer[:2]); code != api.OK || !slices.Equal(buffer, []uint64{0x213, 0, 99}) {
		t.Errorf("Decode changed its words: %x, %d", buffer, code)
	}
	a, _ := cap.Encode(valid()[3])
	b, _ := cap.Encode(valid()[3])
	a[0] = 5
	if b[0] == 5 {
		t.Error("two results of Encode share memory")
	}
}

func TestP13_1Alike(t *testing.T) {
	list := append(valid(), api.Cap{Kind: api.KindFrame, Obj: 5, Rights: 1}, api.Cap{Kind: api.KindEndpoint, Obj: 5, Rights: 1}, api.Cap{Kind: api.KindFrame, Obj: 4}, api.Cap{Kind: api.KindUntyped}, api.Cap{Kind: 12, Obj: 4}, api.Cap{Kind: api.KindRoot, Obj: 4, Badge: 1})
	for _, a := range list {
		for _, b := range list {
			want := may(a) && may(b) && a.Kind == b.Kind && a.Kind != 0 && a.Obj == b.Obj
			if got := cap.Alike(a, b); got != want {
				t.Errorf("Alike(%+v, %+v) = %v", a, b, got)
			}
		}
	}
}

func TestP13_2RoundTrips(t *testing.T) {
	for _, c := range append(caps(), valid()...) {
		w, code := cap.Encode(c)
		if code != api.OK {
			continue
		}
		if back, code := cap.Decode(w); back != c || code != api.OK {
			t.Errorf("Decode(Encode(%+v)) = %+v, %d", c, back, code)
		}
		if (w[0] == 0 && w[1] == 0) != (c == api.Cap{}) {
			t.Errorf("Encode(%+v) = %x", c, w)
		}
	}
	seed := uint64(1)
	for range 200000 {
		seed = seed*6364136223846793005 + 1442695040888963407
		// Few bits, so that many words are those of capabilities.
		w := []uint64{seed & (seed >> 21) & 0xffffff01ff0fff7f, seed >> 7 & (seed << 9) & 0x0000000fff00000f}
		if seed>>60 > 3 {
			w[1] = 0
		}
		c, code := cap.Decode(w)
		if code != api.OK {
			continue
		}
		if back, code := cap.Encode(c); !slices.Equal(back, w) || code != api.OK {
			t.Fatalf("Encode(Decode(%x)) = %x, %d", w, back, code)
		}
	}
	if c, code := cap.Decode([]uint64{0, 0}); c != (api.Cap{}) || code != api.OK {
		t.Errorf("Decode(0, 0) = %+v, %d", c, code)
	}
}
