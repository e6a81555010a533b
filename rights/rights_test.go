package rights_test

import (
	"math"
	"testing"

	"seisin/api"
	"seisin/rights"
)

var texts = []string{"---", "r--", "-w-", "rw-", "--g", "r-g", "-wg", "rwg"}

var bad = []int{math.MinInt, -8, -7, -1, 8, 9, 15, 1 << 40, math.MaxInt}

func TestP9_1MayText(t *testing.T) {
	for r, want := range texts {
		if !rights.May(r) {
			t.Errorf("May(%d)", r)
		}
		if got := rights.Text(r); got != want {
			t.Errorf("Text(%d) = %q; want %q", r, got, want)
		}
	}
	for _, r := range bad {
		if rights.May(r) {
			t.Errorf("May(%d)", r)
		}
		if got := rights.Text(r); got != "" {
			t.Errorf("Text(%d) = %q", r, got)
		}
	}
}

// contains is the model: whether the text of r has a letter.
func contains(r, i int) bool { return texts[r][i] != '-' }

func TestP9_1MaskHas(t *testing.T) {
	for a := range 8 {
		for b := range 8 {
			mask, has := 0, true
			for i, n := range []int{api.Read, api.Write, api.Grant} {
				if contains(a, i) && contains(b, i) {
					mask += n
				}
				if contains(b, i) && !contains(a, i) {
					has = false
				}
			}
			if got := rights.Mask(a, b); got != mask {
				t.Errorf("Mask(%d, %d) = %d; want %d", a, b, got, mask)
			}
			if got := rights.Has(a, b); got != has {
				t.Errorf("Has(%d, %d) = %v", a, b, got)
			}
		}
		for _, b := range bad {
			if rights.Mask(a, b) != 0 || rights.Mask(b, a) != 0 {
				t.Errorf("Mask of %d and %d", a, b)
			}
			if rights.Has(a, b) || rights.Has(b, a) {
				t.Errorf("Has of %d and %d", a, b)
			}
		}
	}
	if rights.Mask(15, 15) != 0 || rights.Has(-1, 0) || rights.Has(-1, -1) {
		t.Error("sets that may not be")
	}
}

func TestP9_1Parse(t *testing.T) {
	for want, s := range texts {
		if r, code := rights.Parse(s); r != want || code != api.OK {
			t.Errorf("Parse(%q) = %d, %d", s, r, code)
		}
	}
	for _, s := range []string{"", "-", "--", "rw", "rwg-", "----", "rwgr", "wr-", "gwr", "R--", "rwx", "r- ", " r-", "-r-", "--r", "w--", "g--", "\x00--", "r\xff-", "é-", "r-é", "7"} {
		if r, code := rights.Parse(s); r != 0 || code != api.ErrForm {
			t.Errorf("Parse(%q) = %d, %d", s, r, code)
		}
	}
	chars := "rwg-Rx\n"
	known := map[string]int{}
	for r, s := range texts {
		known[s] = r
	}
	for _, a := range chars {
		for _, b := range chars {
			for _, c := range chars {
				s := string([]rune{a, b, c})
				want, ok := known[s]
				r, code := rights.Parse(s)
				if ok != (code == api.OK) || r != want || !ok && code != api.ErrForm {
					t.Errorf("Parse(%q) = %d, %d", s, r, code)
				}
			}
		}
	}
}
