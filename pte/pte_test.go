package pte_test

import (
	"math"
	"testing"

	"seisin/api"
	"seisin/pte"
)

// entries yields every combination of the flags with these frames.
func entries(frames ...int) []api.Entry {
	var all []api.Entry
	for _, f := range frames {
		for i := range 16 {
			all = append(all, api.Entry{Valid: i&1 != 0, Leaf: i&2 != 0, Read: i&4 != 0, Write: i&8 != 0, Frame: f})
		}
	}
	return all
}

// word is the model of an entry's word.
func word(e api.Entry) uint64 {
	w := uint64(e.Frame) * 256
	for i, on := range []bool{e.Valid, e.Leaf, e.Read, e.Write} {
		if on {
			w += 1 << uint(i)
		}
	}
	return w
}

func may(e api.Entry) bool {
	if !e.Valid {
		return !e.Leaf && !e.Read && !e.Write && e.Frame == 0
	}
	return e.Leaf == (e.Read || e.Write) && e.Frame >= 0 && e.Frame <= 63
}

func TestP3_1MayEncode(t *testing.T) {
	frames := []int{math.MinInt, -64, -1, 64, 65, 128, 1 << 32, math.MaxInt}
	for f := range 64 {
		frames = append(frames, f)
	}
	for _, e := range entries(frames...) {
		if got := pte.May(e); got != may(e) {
			t.Errorf("May(%+v) = %v", e, got)
		}
		w, code := pte.Encode(e)
		if may(e) && (w != word(e) || code != api.OK) {
			t.Errorf("Encode(%+v) = %x, %d", e, w, code)
		}
		if !may(e) && (w != 0 || code != api.ErrForm) {
			t.Errorf("Encode(%+v) = %x, %d; want ErrForm", e, w, code)
		}
	}
}

func TestP3_1Decode(t *testing.T) {
	known := map[uint64]api.Entry{}
	for f := range 64 {
		for _, e := range entries(f) {
			if may(e) {
				known[word(e)] = e
			}
		}
	}
	check := func(w uint64) {
		got, code := pte.Decode(w)
		e, ok := known[w]
		if ok && (got != e || code != api.OK) || !ok && (got != api.Entry{} || code != api.ErrForm) {
			t.Fatalf("Decode(%x) = %+v, %d", w, got, code)
		}
	}
	for w := range uint64(1 << 16) {
		check(w)
	}
	for w := range known {
		for at := 14; at < 64; at++ {
			check(w | 1<<uint(at))
		}
		for at := 4; at < 8; at++ {
			check(w | 1<<uint(at))
		}
	}
	check(math.MaxUint64)
	check(0x507)
}

func TestP3_2RoundTrips(t *testing.T) {
	for f := range 64 {
		for _, e := range entries(f) {
			w, code := pte.Encode(e)
			if code != api.OK {
				continue
			}
			if back, code := pte.Decode(w); back != e || code != api.OK {
				t.Errorf("Decode(Encode(%+v)) = %+v, %d", e, back, code)
			}
		}
	}
	for w := range uint64(1 << 14) {
		e, code := pte.Decode(w)
		if code != api.OK {
			continue
		}
		if back, code := pte.Encode(e); back != w || code != api.OK {
			t.Errorf("Encode(Decode(%x)) = %x, %d", w, back, code)
		}
	}
	if e, code := pte.Decode(0); code != api.OK || e.Valid {
		t.Errorf("Decode(0) = %+v, %d", e, code)
	}
	if w, code := pte.Encode(api.Entry{}); w != 0 || code != api.OK {
		t.Errorf("Encode of the zero entry = %x, %d", w, code)
	}
}
