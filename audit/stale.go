package audit

import (
	"seisin/api"
	"seisin/phys"
	"seisin/walk"
)

// Stale returns the indexes of those translations that do not agree with a walk.
func Stale(v api.View, words [][]uint64, cached []api.Trans) []int {
	m := memory(words)
	var list []int
	for i, x := range cached {
		if m == nil || !agrees(v, m, x) {
			list = append(list, i)
		}
	}
	return list
}

// memory returns a memory with these words, or nil if there is none.
func memory(words [][]uint64) *phys.Mem {
	m, code := phys.New(len(words))
	if code != api.OK {
		return nil
	}
	for f, list := range words {
		if len(list) != api.FrameWords {
			return nil
		}
		for i, w := range list {
			m.Store(uint64(f*api.FrameBytes+i*(api.FrameBytes/api.FrameWords)), w)
		}
	}
	return m
}

// agrees reports whether a translation is what a walk finds now.
func agrees(v api.View, m *phys.Mem, x api.Trans) bool {
	first, ok := rootFrame(v, x.Space)
	if !ok {
		return false
	}
	leaf, code := walk.Walk(m, first, x.Page)
	return code == api.OK && leaf.Frame == x.Frame && leaf.Read == x.Read && leaf.Write == x.Write
}

// rootFrame returns the first frame of the root with that number. The number 0
// is never a root's.
func rootFrame(v api.View, number int) (int, bool) {
	if number < 1 || number >= api.MaxPools*api.PoolSpaces {
		return 0, false
	}
	root := v.Pools[number/api.PoolSpaces].Roots[number%api.PoolSpaces]
	for _, o := range v.Objects {
		if o.ID == root && root != 0 {
			return o.First, true
		}
	}
	return 0, false
}
