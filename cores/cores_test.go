package cores_test

import (
	"math"
	"slices"
	"testing"

	"seisin/api"
	"seisin/cores"
	"seisin/phys"
	"seisin/walk"
)

// example is the memory of chapter 5, in eight frames, with more pages:
// 0 to 3 of root 0 lead to frame 3, page 4 to nothing.
func example(t *testing.T) *phys.Mem {
	t.Helper()
	m, code := phys.New(8)
	if code != api.OK {
		t.Fatal(code)
	}
	for a, w := range map[uint64]uint64{0: 0x101, 64: 0x201, 128: 0x307, 136: 0x30b, 144: 0x30f, 152: 0x507} {
		m.Store(a, w)
	}
	return m
}

func some(t *testing.T, n int) *cores.Cores {
	t.Helper()
	c, code := cores.New(n)
	if c == nil || code != api.OK {
		t.Fatalf("New(%d): %d", n, code)
	}
	return c
}

func set(t *testing.T, c *cores.Cores, core, root, space int) {
	t.Helper()
	if code := c.Set(core, root, space); code != api.OK {
		t.Fatalf("Set(%d, %d, %d): %d", core, root, space, code)
	}
}

func translate(t *testing.T, c *cores.Cores, core int, m *phys.Mem, page int, want api.Trans, cached bool, code api.Errno) {
	t.Helper()
	x, was, e := c.Translate(core, m, page)
	if x != want || was != cached || e != code {
		t.Errorf("Translate(%d, %d) = %+v, %v, %d; want %+v, %v, %d", core, page, x, was, e, want, cached, code)
	}
}

func regs(t *testing.T, c *cores.Cores, core, root, space int, code api.Errno) {
	t.Helper()
	if r, s, e := c.Regs(core); r != root || s != space || e != code {
		t.Errorf("Regs(%d) = %d, %d, %d; want %d, %d, %d", core, r, s, e, root, space, code)
	}
}

func TestP7_1New(t *testing.T) {
	for n := 1; n <= 3; n++ {
		c := some(t, n)
		if c.Len() != n {
			t.Errorf("Len = %d; want %d", c.Len(), n)
		}
		for i := range n {
			regs(t, c, i, -1, 0, api.OK)
			if len(c.All(i)) != 0 {
				t.Errorf("a new core %d has a cache that is not empty", i)
			}
		}
	}
	for _, n := range []int{math.MinInt, -1, 0, 4, math.MaxInt} {
		if c, code := cores.New(n); c != nil || code != api.ErrRange {
			t.Errorf("New(%d): %d", n, code)
		}
	}
}

func TestP7_1SetRegs(t *testing.T) {
	c := some(t, 2)
	set(t, c, 0, 5, 7)
	regs(t, c, 0, 5, 7, api.OK)
	regs(t, c, 1, -1, 0, api.OK)
	for _, x := range [][2]int{{-1, 1}, {-1, -1}, {-2, 0}, {0, 0}, {63, 0}, {64, 1}, {5, -1}, {-2, 1}, {math.MinInt, 0}, {math.MaxInt, 1}} {
		if code := c.Set(0, x[0], x[1]); code != api.ErrArg {
			t.Errorf("Set(0, %v): %d", x, code)
		}
		regs(t, c, 0, 5, 7, api.OK)
	}
	for _, core := range []int{-1, 2, math.MinInt, math.MaxInt} {
		if code := c.Set(core, 64, 0); code != api.ErrRange {
			t.Errorf("Set(%d, 64, 0): %d", core, code)
		}
		regs(t, c, core, 0, 0, api.ErrRange)
	}
	set(t, c, 0, 0, 1)
	set(t, c, 1, 63, math.MaxInt)
	regs(t, c, 0, 0, 1, api.OK)
	regs(t, c, 1, 63, math.MaxInt, api.OK)
	set(t, c, 0, -1, 0)
	regs(t, c, 0, -1, 0, api.OK)
}

func TestP7_2Example(t *testing.T) {
	m := example(t)
	c := some(t, 2)
	set(t, c, 0, 0, 1)
	want := api.Trans{Space: 1, Page: 0, Frame: 3, Read: true}
	translate(t, c, 0, m, 0, want, false, api.OK)
	translate(t, c, 0, m, 0, want, true, api.OK)
	translate(t, c, 1, m, 0, api.Trans{}, false, api.ErrIdle)
	m.Store(128, 0)
	translate(t, c, 0, m, 0, want, true, api.OK)
	if n := c.DropPage(1, 0); n != 1 {
		t.Errorf("DropPage = %d", n)
	}
	translate(t, c, 0, m, 0, api.Trans{}, false, api.ErrFault)
}

func TestP7_2TranslateErrors(t *testing.T) {
	m := example(t)
	c := some(t, 1)
	translate(t, c, 1, m, 0, api.Trans{}, false, api.ErrRange)
	translate(t, c, -1, m, 0, api.Trans{}, false, api.ErrRange)
	translate(t, c, 0, m, -1, api.Trans{}, false, api.ErrRange)
	translate(t, c, 0, m, 512, api.Trans{}, false, api.ErrRange)
	translate(t, c, 0, m, math.MinInt, api.Trans{}, false, api.ErrRange)
	translate(t, c, 0, m, 0, api.Trans{}, false, api.ErrIdle)
	set(t, c, 0, 0, 1)
	translate(t, c, 0, m, 512, api.Trans{}, false, api.ErrRange)
	translate(t, c, 0, m, 4, api.Trans{}, false, api.ErrFault)
	translate(t, c, 0, m, 8, api.Trans{}, false, api.ErrFault)
	translate(t, c, 0, m, 64, api.Trans{}, false, api.ErrFault)
	m.Store(160, 0x103)
	translate(t, c, 0, m, 4, api.Trans{}, false, api.ErrForm)
	set(t, c, 0, 8, 1)
	translate(t, c, 0, m, 0, api.Trans{}, false, api.ErrRange)
	if len(c.All(0)) != 0 {
		t.Errorf("errors were cached: %+v", c.All(0))
	}
}

func TestP7_2WhatIsFilled(t *testing.T) {
	m := example(t)
	c := some(t, 2)
	set(t, c, 0, 0, 4)
	set(t, c, 1, 0, 5)
	want := []api.Trans{
		{Space: 4, Page: 0, Frame: 3, Read: true},
		{Space: 4, Page: 1, Frame: 3, Write: true},
		{Space: 4, Page: 2, Frame: 3, Read: true, Write: true},
		{Space: 4, Page: 3, Frame: 5, Read: true},
	}
	for _, x := range want {
		translate(t, c, 0, m, x.Page, x, false, api.OK)
		translate(t, c, 0, m, x.Page, x, true, api.OK)
	}
	if got := c.All(0); !slices.Equal(got, want) {
		t.Errorf("All(0) = %+v", got)
	}
	if got := c.All(1); len(got) != 0 {
		t.Errorf("All(1) = %+v", got)
	}
	// Another space on the same core is another translation.
	set(t, c, 0, 0, 6)
	translate(t, c, 0, m, 0, api.Trans{Space: 6, Page: 0, Frame: 3, Read: true}, false, api.OK)
	// What is cached holds, whatever the root is now.
	set(t, c, 0, 7, 4)
	translate(t, c, 0, m, 1, want[1], true, api.OK)
}

func TestP7_2Prefetch(t *testing.T) {
	m := example(t)
	c := some(t, 2)
	if c.Prefetch(0, m, 0) {
		t.Error("Prefetch of an idle core")
	}
	set(t, c, 0, 0, 1)
	if !c.Prefetch(0, m, 0) || c.Prefetch(0, m, 0) {
		t.Error("Prefetch, twice")
	}
	translate(t, c, 0, m, 0, api.Trans{Space: 1, Page: 0, Frame: 3, Read: true}, true, api.OK)
	if c.Prefetch(0, m, 4) || c.Prefetch(0, m, -1) || c.Prefetch(0, m, 512) || c.Prefetch(2, m, 1) || c.Prefetch(-1, m, 1) || c.Prefetch(1, m, 1) {
		t.Error("Prefetch of what is not there")
	}
	if len(c.All(0)) != 1 || len(c.All(1)) != 0 {
		t.Error("Prefetch filled more than it says")
	}
}

func TestP7_2EvictDropAll(t *testing.T) {
	m := example(t)
	c := some(t, 3)
	for i := range 3 {
		set(t, c, i, 0, 1)
		for page := range 4 {
			c.Translate(i, m, page)
		}
	}
	set(t, c, 2, 0, 2)
	c.Translate(2, m, 0)
	if c.Evict(3, 0, 0) || c.Evict(-1, 0, 0) || c.Evict(0, 4, 0) || c.Evict(0, 0, 2) || c.Evict(0, -1, 0) || c.Evict(0, 0, 1) {
		t.Error("Evict of what is not there")
	}
	if !c.Evict(0, 1, 0) || c.Evict(0, 1, 0) || len(c.All(0)) != 3 || len(c.All(1)) != 4 || len(c.All(2)) != 5 {
		t.Error("Evict(0, 1, 0)")
	}
	if n := c.DropPage(1, 1); n != 2 {
		t.Errorf("DropPage(1, 1) = %d", n)
	}
	if c.DropPage(1, 1) != 0 || c.DropPage(3, 0) != 0 || c.DropPage(1, -1) != 0 {
		t.Error("DropPage of what is not there")
	}
	if n := c.DropSpace(1); n != 9 {
		t.Errorf("DropSpace(1) = %d", n)
	}
	if len(c.All(0)) != 0 || len(c.All(1)) != 0 || len(c.All(2)) != 1 || c.DropSpace(1) != 0 || c.DropSpace(0) != 0 {
		t.Error("DropSpace(1) left something, or took too much")
	}
	if len(c.All(-1)) != 0 || len(c.All(3)) != 0 {
		t.Error("All of no core")
	}
	if n := c.DropSpace(2); n != 1 {
		t.Errorf("DropSpace(2) = %d", n)
	}
}

func TestAllIsACopy(t *testing.T) {
	m := example(t)
	c := some(t, 1)
	set(t, c, 0, 0, 1)
	c.Translate(0, m, 0)
	c.All(0)[0].Frame = 7
	translate(t, c, 0, m, 0, api.Trans{Space: 1, Page: 0, Frame: 3, Read: true}, true, api.OK)
}

func TestP7_3AgreesWithAWalk(t *testing.T) {
	m := example(t)
	c := some(t, 2)
	set(t, c, 0, 0, 1)
	set(t, c, 1, 0, 1)
	seed := uint32(1)
	next := func(n int) int {
		seed = seed*1664525 + 1013904223
		return int(seed>>8) % n
	}
	words := []uint64{0, 0x307, 0x30b, 0x40f, 0x507, 0x103}
	for range 4000 {
		page := next(8)
		switch next(4) {
		case 0:
			m.Store(uint64(128+page*8), words[next(len(words))])
			c.DropPage(1, page)
		case 1:
			c.Evict(next(2), next(4), next(2))
		case 2:
			c.Prefetch(next(2), m, page)
		}
		core := next(2)
		x, _, code := c.Translate(core, m, page)
		e, want := walk.Walk(m, 0, page)
		if code != want || code == api.OK && x != (api.Trans{Space: 1, Page: page, Frame: e.Frame, Read: e.Read, Write: e.Write}) {
			t.Fatalf("Translate(%d) = %+v, %d; a walk: %+v, %d", page, x, code, e, want)
		}
	}
}

func TestNilCores(t *testing.T) {
	var c *cores.Cores
	m := example(t)
	if c.Len() != 0 || c.Prefetch(0, m, 0) || c.Evict(0, 0, 0) || c.DropPage(1, 0) != 0 || c.DropSpace(1) != 0 || len(c.All(0)) != 0 {
		t.Error("nil cores do something")
	}
	if c.Set(0, 64, 0) != api.ErrNil {
		t.Error("Set")
	}
	regs(t, c, 0, 0, 0, api.ErrNil)
	translate(t, c, 9, m, -1, api.Trans{}, false, api.ErrNil)
	d := some(t, 1)
	set(t, d, 0, 0, 1)
	translate(t, d, 0, nil, 0, api.Trans{}, false, api.ErrNil)
	if d.Prefetch(0, nil, 0) {
		t.Error("Prefetch from a nil memory")
	}
}
