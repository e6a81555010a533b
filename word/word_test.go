package word_test

import (
	"math"
	"testing"

	"seisin/api"
	"seisin/word"
)

var samples = []uint64{0, 1, 2, 7, 8, 0xabcd, 1 << 31, 1 << 32, 1 << 63, 1<<63 - 1, 0x123456789abcdef0, 0x5a5a5a5a5a5a5a5a, math.MaxUint64}

var places = []int{math.MinInt, -64, -1, 0, 1, 31, 32, 62, 63, 64, 65, 1 << 32, 1 << 62, math.MaxInt - 1, math.MaxInt}

// bit is the model: one bit of a word.
func bit(w uint64, at int) uint64 { return w >> uint(at) & 1 }

func allowed(at, n int) bool {
	return at >= 0 && at <= 63 && n >= 1 && n <= 64 && at+n <= 64
}

func TestP1_1Field(t *testing.T) {
	for _, w := range samples {
		for at := -2; at <= 66; at++ {
			for n := -2; n <= 66; n++ {
				v, code := word.Field(w, at, n)
				if !allowed(at, n) {
					if v != 0 || code != api.ErrArg {
						t.Fatalf("Field(%x, %d, %d) = %x, %d", w, at, n, v, code)
					}
					continue
				}
				want := uint64(0)
				for i := range n {
					want |= bit(w, at+i) << uint(i)
				}
				if v != want || code != api.OK {
					t.Fatalf("Field(%x, %d, %d) = %x, %d; want %x", w, at, n, v, code, want)
				}
			}
		}
	}
}

func TestP1_1FarArguments(t *testing.T) {
	for _, at := range places {
		for _, n := range places {
			// The sum may wrap round, so the model asks without it.
			ok := at >= 0 && at <= 63 && n >= 1 && n <= 64 && n <= 64-at
			_, code := word.Field(5, at, n)
			if (code == api.OK) != ok || !ok && code != api.ErrArg {
				t.Errorf("Field(5, %d, %d): %d", at, n, code)
			}
			v, code := word.With(5, at, n, 0)
			if (code == api.OK) != ok || !ok && (code != api.ErrArg || v != 0) {
				t.Errorf("With(5, %d, %d, 0): %x, %d", at, n, v, code)
			}
		}
	}
}

func TestP1_1With(t *testing.T) {
	for _, w := range samples {
		for _, v := range samples {
			for at := -1; at <= 65; at++ {
				for n := -1; n <= 65; n++ {
					got, code := word.With(w, at, n, v)
					want, wantCode := uint64(0), api.OK
					switch {
					case !allowed(at, n):
						wantCode = api.ErrArg
					case n < 64 && v >= 1<<uint(n):
						wantCode = api.ErrRange
					default:
						for i := range 64 {
							b := bit(w, i)
							if i >= at && i < at+n {
								b = bit(v, i-at)
							}
							want |= b << uint(i)
						}
					}
					if got != want || code != wantCode {
						t.Fatalf("With(%x, %d, %d, %x) = %x, %d; want %x, %d", w, at, n, v, got, code, want, wantCode)
					}
				}
			}
		}
	}
}

func TestP1_1Ones(t *testing.T) {
	for n := -3; n <= 70; n++ {
		want := uint64(0)
		for i := range 64 {
			if i < n {
				want |= 1 << uint(i)
			}
		}
		if got := word.Ones(n); got != want {
			t.Errorf("Ones(%d) = %x; want %x", n, got, want)
		}
	}
	if word.Ones(math.MinInt) != 0 || word.Ones(math.MaxInt) != math.MaxUint64 {
		t.Error("Ones of far numbers")
	}
}

func TestP1_1Fits(t *testing.T) {
	for at := range 64 {
		for n := -2; n <= 66; n++ {
			if got := word.Fits(1<<uint(at), n); got != (at < n) {
				t.Errorf("Fits(bit %d, %d) = %v", at, n, got)
			}
			if got := word.Fits(1<<uint(at)|1, n); got != (at < n) {
				t.Errorf("Fits(bits 0 and %d, %d) = %v", at, n, got)
			}
		}
	}
	for _, n := range places {
		if !word.Fits(0, n) {
			t.Errorf("Fits(0, %d)", n)
		}
		if got := word.Fits(math.MaxUint64, n); got != (n >= 64) {
			t.Errorf("Fits(all ones, %d) = %v", n, got)
		}
	}
}

func TestP1_2FieldOfWith(t *testing.T) {
	for _, w := range samples {
		for at := range 64 {
			for n := 1; n <= 64-at; n++ {
				v := uint64(0xc3a5_0f1e_9b27_d468) & word.Ones(n)
				x, code := word.With(w, at, n, v)
				if code != api.OK {
					t.Fatalf("With(%x, %d, %d, %x): %d", w, at, n, v, code)
				}
				if y, code := word.Field(x, at, n); y != v || code != api.OK {
					t.Fatalf("Field of With(%x, %d, %d, %x) = %x, %d", w, at, n, v, y, code)
				}
				for i := range 64 {
					if (i < at || i >= at+n) && bit(x, i) != bit(w, i) {
						t.Fatalf("With(%x, %d, %d, %x) changed bit %d", w, at, n, v, i)
					}
				}
			}
		}
	}
}
