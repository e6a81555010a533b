package part

import (
	"slices"

	"seisin/api"
)

// group is what is asked of a group of threads, to hold it against another one.
type group struct {
	slots set[api.Slot] // those of what it reaches
	maps  set[api.Slot]
	leans set[int]
}

// Apart reports whether two groups of threads are isolated from each other.
func Apart(v api.View, as []int, bs []int) bool {
	if !split(v, as, bs) {
		return false
	}
	a, b := groupOf(v, as), groupOf(v, bs)
	kinds := kindsOf(v)
	return leansApart(a, b, kinds) && framesApart(v, a, b, kinds) &&
		slotsApart(v, a, b, kinds) && slotsApart(v, b, a, kinds)
}

func groupOf(v api.View, threads []int) group {
	return group{
		slots: setOf(Slots(v, Reach(v, threads))),
		maps:  setOf(Maps(v, threads)),
		leans: setOf(Leans(v, threads)),
	}
}

// split reports whether the groups together contain each thread of v exactly
// once, and nothing else.
func split(v api.View, as []int, bs []int) bool {
	ids := set[int]{}
	var all []int
	for _, t := range v.Threads {
		if ids.has(t.ID) {
			return false
		}
		ids.add(t.ID)
		all = append(all, t.ID)
	}
	both := slices.Concat(as, bs)
	slices.Sort(all)
	slices.Sort(both)
	return slices.Equal(all, both)
}

// leansApart reports whether both depend on frames only.
func leansApart(a group, b group, kinds map[int]int) bool {
	for id := range a.leans {
		if b.leans.has(id) && kinds[id] != api.KindFrame {
			return false
		}
	}
	return true
}

// framesApart reports whether no frame of which both have a capability can be
// written by one of them.
func framesApart(v api.View, a group, b group, kinds map[int]int) bool {
	ofA, writeA := a.frames(v, kinds)
	ofB, writeB := b.frames(v, kinds)
	for id := range ofA {
		if ofB.has(id) && (writeA.has(id) || writeB.has(id)) {
			return false
		}
	}
	return true
}

// frames returns the frames of which a group has a capability, and those of
// which one has Write.
func (g group) frames(v api.View, kinds map[int]int) (set[int], set[int]) {
	have, write := set[int]{}, set[int]{}
capabilities:
	for _, h := range v.Caps {
		id, ok := target(h.Cap)
		if !ok || kinds[id] != api.KindFrame || !g.slots.has(h.Slot) && !g.maps.has(h.Slot) {
			continue capabilities
		}
		have.add(id)
		if h.Cap.Rights&api.Write != 0 {
			write.add(id)
		}
	}
	return have, write
}

// slotsApart reports whether neither the slots of x nor those below them have
// anything on which y depends.
func slotsApart(v api.View, x group, y group, kinds map[int]int) bool {
	below := belowOf(v, x.slots)
	for s := range below {
		if y.slots.has(s) || y.maps.has(s) {
			return false
		}
	}
	for s := range x.slots {
		if y.maps.has(s) {
			return false
		}
	}
	for _, h := range v.Caps {
		id, ok := target(h.Cap)
		if ok && y.leans.has(id) && kinds[id] != api.KindFrame && (x.slots.has(h.Slot) || below.has(h.Slot)) {
			return false
		}
	}
	return true
}

// belowOf returns the slots that are below one of a set in the tree.
func belowOf(v api.View, above set[api.Slot]) set[api.Slot] {
	below := set[api.Slot]{}
	inside, depth := false, 0
	for _, n := range v.Tree {
		inside = inside && n.Depth > depth
		if inside {
			below.add(n.Slot)
		} else if above.has(n.Slot) {
			inside, depth = true, n.Depth
		}
	}
	return below
}
