package vaddr_test

import (
	"math"
	"testing"

	"seisin/api"
	"seisin/vaddr"
)

var far = []int{math.MinInt, math.MinInt32, -512, -1, 1 << 32, 1 << 62, math.MaxInt}

func TestP4_1SplitJoinPage(t *testing.T) {
	for va := range uint64(32768) {
		off, page := int(va%64), int(va/64)
		want := api.Parts{A: page / 64, B: page / 8 % 8, C: page % 8, Off: off}
		if p, code := vaddr.Split(va); p != want || code != api.OK {
			t.Fatalf("Split(%d) = %v, %d", va, p, code)
		}
		if got, code := vaddr.Join(want); got != va || code != api.OK {
			t.Fatalf("Join(%v) = %d, %d", want, got, code)
		}
		if got, code := vaddr.Page(va); got != page || code != api.OK {
			t.Fatalf("Page(%d) = %d, %d", va, got, code)
		}
	}
	for _, va := range []uint64{32768, 32769, 32768 + 64, 65536, 1 << 32, 1 << 63, math.MaxUint64} {
		if p, code := vaddr.Split(va); p != (api.Parts{}) || code != api.ErrRange {
			t.Errorf("Split(%d) = %v, %d", va, p, code)
		}
		if p, code := vaddr.Page(va); p != 0 || code != api.ErrRange {
			t.Errorf("Page(%d) = %v, %d", va, p, code)
		}
	}
}

func TestP4_1JoinBad(t *testing.T) {
	bad := append([]int{8, 9, 63, 64, 256}, far...)
	for _, n := range bad {
		for i, p := range []api.Parts{{A: n, B: 1, C: 2, Off: 3}, {A: 1, B: n, C: 2, Off: 3}, {A: 1, B: 2, C: n, Off: 3}, {A: 1, B: 2, C: 3, Off: n}} {
			va, code := vaddr.Join(p)
			if i == 3 && n >= 0 && n <= 63 {
				if code != api.OK || va != uint64(4096+2*512+3*64+n) {
					t.Errorf("Join(%v) = %d, %d", p, va, code)
				}
				continue
			}
			if va != 0 || code != api.ErrRange {
				t.Errorf("Join(%v) = %d, %d", p, va, code)
			}
		}
	}
}

func TestP4_1Base(t *testing.T) {
	for page := range 512 {
		if va, code := vaddr.Base(page); va != uint64(page)*64 || code != api.OK {
			t.Errorf("Base(%d) = %d, %d", page, va, code)
		}
	}
	for _, page := range append([]int{512, 513, 1024}, far...) {
		if va, code := vaddr.Base(page); va != 0 || code != api.ErrRange {
			t.Errorf("Base(%d) = %d, %d", page, va, code)
		}
	}
}

func TestP4_1Index(t *testing.T) {
	for page := -2; page <= 514; page++ {
		for level := -1; level <= 5; level++ {
			want := -1
			if page >= 0 && page < 512 {
				switch level {
				case 1:
					want = page / 64
				case 2:
					want = page / 8 % 8
				case 3:
					want = page % 8
				}
			}
			if got := vaddr.Index(page, level); got != want {
				t.Errorf("Index(%d, %d) = %d; want %d", page, level, got, want)
			}
		}
	}
	for _, n := range far {
		if vaddr.Index(n, 1) != -1 || vaddr.Index(5, n) != -1 || vaddr.Index(n, n) != -1 {
			t.Errorf("Index of %d", n)
		}
	}
}
