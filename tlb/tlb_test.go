package tlb_test

import (
	"math"
	"slices"
	"testing"

	"seisin/api"
	"seisin/tlb"
)

func tr(space, page, frame int) api.Trans {
	return api.Trans{Space: space, Page: page, Frame: frame, Read: true}
}

func fill(t *testing.T, c *tlb.Tlb, xs ...api.Trans) {
	t.Helper()
	for _, x := range xs {
		if code := c.Fill(x); code != api.OK {
			t.Fatalf("Fill(%+v): %d", x, code)
		}
	}
}

func all(t *testing.T, c *tlb.Tlb, want ...api.Trans) {
	t.Helper()
	if got := c.All(); !slices.Equal(got, want) {
		t.Errorf("All = %+v; want %+v", got, want)
	}
}

func TestP6_1Example(t *testing.T) {
	c := tlb.New()
	all(t, c)
	fill(t, c, tr(1, 0, 5), tr(1, 4, 6), tr(1, 8, 7))
	all(t, c, tr(1, 8, 7), tr(1, 4, 6))
	if x, ok := c.Find(1, 0); ok || x != (api.Trans{}) {
		t.Errorf("Find(1, 0) = %+v, %v", x, ok)
	}
	if x, ok := c.Find(1, 8); !ok || x != tr(1, 8, 7) {
		t.Errorf("Find(1, 8) = %+v, %v", x, ok)
	}
	if !c.Evict(0, 0) || c.Evict(0, 0) || c.DropSpace(1) != 1 {
		t.Error("Evict, Evict, DropSpace")
	}
}

func TestP6_1Due(t *testing.T) {
	c := tlb.New()
	fill(t, c, tr(1, 1, 0), tr(1, 5, 1), tr(1, 9, 2), tr(1, 13, 3), tr(1, 17, 4))
	all(t, c, tr(1, 17, 4), tr(1, 13, 3))
	// The turn is at way 1 now. A set's turn is its own.
	fill(t, c, tr(1, 2, 0), tr(1, 6, 1), tr(1, 10, 2))
	all(t, c, tr(1, 17, 4), tr(1, 13, 3), tr(1, 10, 2), tr(1, 6, 1))
	// To fill an empty way leaves the turn where it was.
	if !c.Evict(1, 0) {
		t.Error("Evict(1, 0)")
	}
	fill(t, c, tr(1, 21, 5))
	all(t, c, tr(1, 21, 5), tr(1, 13, 3), tr(1, 10, 2), tr(1, 6, 1))
	fill(t, c, tr(1, 25, 6))
	all(t, c, tr(1, 21, 5), tr(1, 25, 6), tr(1, 10, 2), tr(1, 6, 1))
}

func TestP6_1SameTranslation(t *testing.T) {
	c := tlb.New()
	fill(t, c, tr(1, 0, 1), tr(2, 0, 2))
	again := api.Trans{Space: 2, Page: 0, Frame: 9, Write: true}
	fill(t, c, again)
	all(t, c, tr(1, 0, 1), again)
	// Way 0 is still due.
	fill(t, c, tr(3, 0, 3))
	all(t, c, tr(3, 0, 3), again)
	// A translation in way 1 is found there although way 0 is empty.
	c.Evict(0, 0)
	fill(t, c, tr(2, 0, 4))
	all(t, c, tr(2, 0, 4))
	if !c.Evict(0, 1) {
		t.Error("the translation moved to the empty way")
	}
}

func TestP6_1LowestEmptyWay(t *testing.T) {
	c := tlb.New()
	fill(t, c, tr(1, 3, 1), tr(1, 7, 2))
	c.Evict(3, 0)
	c.Evict(3, 1)
	fill(t, c, tr(1, 11, 3))
	if c.Evict(3, 1) || !c.Evict(3, 0) {
		t.Error("Fill did not take the lowest empty way")
	}
}

func TestP6_1BadFills(t *testing.T) {
	c := tlb.New()
	fill(t, c, tr(1, 0, 0))
	bad := []api.Trans{
		{Space: 0, Page: 1, Read: true}, {Space: -1, Page: 1, Read: true}, {Space: math.MinInt, Page: 1, Read: true},
		{Space: 1, Page: -1, Read: true}, {Space: 1, Page: 512, Read: true}, {Space: 1, Page: math.MinInt, Read: true}, {Space: 1, Page: math.MaxInt, Read: true},
		{Space: 1, Page: 1, Frame: -1, Read: true}, {Space: 1, Page: 1, Frame: 64, Read: true}, {Space: 1, Page: 1, Frame: math.MaxInt, Write: true},
		{Space: 1, Page: 1, Frame: 1}, {},
	}
	for _, x := range bad {
		if code := c.Fill(x); code != api.ErrArg {
			t.Errorf("Fill(%+v): %d", x, code)
		}
	}
	all(t, c, tr(1, 0, 0))
	good := []api.Trans{
		{Space: 1, Page: 511, Frame: 63, Read: true}, {Space: math.MaxInt, Page: 510, Write: true}, {Space: 32, Page: 1, Frame: 0, Read: true, Write: true},
	}
	fill(t, c, good...)
	for _, x := range good {
		if got, ok := c.Find(x.Space, x.Page); !ok || got != x {
			t.Errorf("Find of %+v: %+v, %v", x, got, ok)
		}
	}
}

func TestP6_1FindNothing(t *testing.T) {
	c := tlb.New()
	fill(t, c, tr(1, 0, 0), tr(1, 511, 1))
	for _, x := range [][2]int{{2, 0}, {1, 1}, {1, 4}, {0, 0}, {0, 1}, {-1, 0}, {1, -1}, {1, 512}, {1, math.MinInt}, {math.MaxInt, math.MaxInt}} {
		if got, ok := c.Find(x[0], x[1]); ok || got != (api.Trans{}) {
			t.Errorf("Find(%v) = %+v, %v", x, got, ok)
		}
	}
}

func TestP6_2Evict(t *testing.T) {
	c := tlb.New()
	for set := -2; set <= 6; set++ {
		for way := -2; way <= 4; way++ {
			if c.Evict(set, way) {
				t.Errorf("an empty cache's Evict(%d, %d)", set, way)
			}
		}
	}
	for page := range 8 {
		fill(t, c, tr(1, page, page))
	}
	for _, x := range [][2]int{{-1, 0}, {4, 0}, {0, -1}, {0, 2}, {math.MinInt, 0}, {0, math.MaxInt}} {
		if c.Evict(x[0], x[1]) {
			t.Errorf("Evict(%v)", x)
		}
	}
	if !c.Evict(2, 1) || c.Evict(2, 1) {
		t.Error("Evict(2, 1) twice")
	}
	all(t, c, tr(1, 0, 0), tr(1, 4, 4), tr(1, 1, 1), tr(1, 5, 5), tr(1, 2, 2), tr(1, 3, 3), tr(1, 7, 7))
}

func TestP6_2Drop(t *testing.T) {
	c := tlb.New()
	fill(t, c, tr(1, 0, 0), tr(2, 0, 1), tr(1, 1, 2), tr(2, 5, 3), tr(1, 6, 4))
	if c.DropPage(1, 5) != 0 || c.DropPage(3, 0) != 0 || c.DropPage(1, -4) != 0 || c.DropPage(0, 0) != 0 || c.DropSpace(0) != 0 || c.DropSpace(-1) != 0 || c.DropSpace(3) != 0 {
		t.Error("something that is not there was dropped")
	}
	all(t, c, tr(1, 0, 0), tr(2, 0, 1), tr(1, 1, 2), tr(2, 5, 3), tr(1, 6, 4))
	if n := c.DropPage(2, 0); n != 1 {
		t.Errorf("DropPage(2, 0) = %d", n)
	}
	all(t, c, tr(1, 0, 0), tr(1, 1, 2), tr(2, 5, 3), tr(1, 6, 4))
	if n := c.DropSpace(1); n != 3 {
		t.Errorf("DropSpace(1) = %d", n)
	}
	all(t, c, tr(2, 5, 3))
	fill(t, c, tr(1, 0, 0), tr(1, 3, 0))
	if n := c.DropAll(); n != 3 {
		t.Errorf("DropAll = %d", n)
	}
	all(t, c)
	if c.DropAll() != 0 {
		t.Error("DropAll of an empty cache")
	}
}

func TestAllIsACopy(t *testing.T) {
	c := tlb.New()
	fill(t, c, tr(1, 0, 3))
	c.All()[0].Frame = 9
	all(t, c, tr(1, 0, 3))
}

func TestNilCache(t *testing.T) {
	var c *tlb.Tlb
	if x, ok := c.Find(1, 0); ok || x != (api.Trans{}) {
		t.Error("Find")
	}
	if c.Fill(tr(1, 0, 0)) != api.ErrNil || c.Fill(api.Trans{}) != api.ErrNil {
		t.Error("Fill")
	}
	if c.Evict(0, 0) || c.DropPage(1, 0) != 0 || c.DropSpace(1) != 0 || c.DropAll() != 0 || len(c.All()) != 0 {
		t.Error("a nil cache does something")
	}
}
