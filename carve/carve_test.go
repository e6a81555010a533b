package carve_test

import (
	"math"
	"slices"
	"testing"

	"seisin/api"
	"seisin/carve"
)

func check(t *testing.T, total, mark, each, count int) {
	t.Helper()
	var firsts []int
	end, want := 0, api.OK
	switch {
	case total < 0 || total > 64 || mark < 0 || mark > total || each < 1 || each > 64 || count < 1 || count > 4:
		want = api.ErrArg
	case count*each > total-mark:
		want = api.ErrNoMem
	default:
		for end = mark; len(firsts) < count; end += each {
			firsts = append(firsts, end)
		}
	}
	got, mark2, code := carve.Carve(total, mark, each, count)
	if !slices.Equal(got, firsts) || mark2 != end || code != want {
		t.Fatalf("Carve(%d, %d, %d, %d) = %v, %d, %d; want %v, %d, %d", total, mark, each, count, got, mark2, code, firsts, end, want)
	}
}

func TestP11_1Carve(t *testing.T) {
	for total := -1; total <= 66; total++ {
		for mark := -1; mark <= total+1; mark++ {
			for each := -1; each <= 66; each++ {
				for count := -1; count <= 6; count++ {
					check(t, total, mark, each, count)
				}
			}
		}
	}
	for total := range 65 {
		for mark := range total + 1 {
			for count := 1; count <= 4; count++ {
				for each := 1; each <= 64; each++ {
					check(t, total, mark, each, count)
				}
			}
		}
	}
	for _, n := range []int{math.MinInt, math.MinInt32, 1 << 32, 1 << 62, math.MaxInt} {
		check(t, n, 0, 1, 1)
		check(t, n, n, 1, 1)
		check(t, 10, n, 1, 1)
		check(t, 10, 0, n, 1)
		check(t, 10, 0, 1, n)
		check(t, 10, 0, n, n)
	}
}

func TestP11_1MeetWithin(t *testing.T) {
	in := func(f, a, n int) bool { return f >= a && f < a+n }
	for a := range 7 {
		for n := range 7 {
			for b := range 7 {
				for k := range 7 {
					meet, within := false, true
					for f := range 16 {
						meet = meet || in(f, a, n) && in(f, b, k)
						within = within && (!in(f, a, n) || in(f, b, k))
					}
					if got := carve.Meet(a, n, b, k); got != meet {
						t.Errorf("Meet(%d, %d, %d, %d) = %v", a, n, b, k, got)
					}
					if got := carve.Within(a, n, b, k); got != within {
						t.Errorf("Within(%d, %d, %d, %d) = %v", a, n, b, k, got)
					}
				}
			}
		}
	}
}

func TestP11_1FarRanges(t *testing.T) {
	const far = 1 << 20
	if !carve.Meet(far, far, far, far) || !carve.Within(far, far, far, far) || !carve.Meet(0, far, far-1, 1) || carve.Meet(0, far, far, 1) || !carve.Within(far, 0, 0, 0) || carve.Within(far, 1, 0, far) {
		t.Error("ranges of the greatest numbers")
	}
	for _, n := range []int{-1, far + 1, math.MinInt, 1 << 62, math.MaxInt} {
		for i := range 4 {
			x := [4]int{0, 5, 0, 5}
			x[i] = n
			if carve.Meet(x[0], x[1], x[2], x[3]) {
				t.Errorf("Meet(%v)", x)
			}
			if carve.Within(x[0], x[1], x[2], x[3]) {
				t.Errorf("Within(%v)", x)
			}
			x[1] = 0
			x[i] = n
			if carve.Within(x[0], x[1], x[2], x[3]) {
				t.Errorf("Within(%v)", x)
			}
		}
		if carve.Within(n, 0, n, 0) || carve.Meet(n, n, n, n) || carve.Within(n, n, n, n) {
			t.Errorf("ranges of %d", n)
		}
	}
}
