package world_test

import (
	"seisin/api"
	"seisin/world"
)

// gen makes scripts that are mostly sensible, without a random source. They
// begin with the events of first.
type gen struct {
	seed  uint64
	first []api.Event
}

// settled is a gen whose scripts begin with two mapped frames for each thread,
// where the seed wants it so.
func settled(w *world.World, seed int) gen {
	g := gen{seed: uint64(seed)}
	if seed%4 == 0 {
		return g
	}
	for _, id := range w.Threads() {
		g.first = append(g.first, pick(0, id),
			call(0, api.OpRetype, 3, api.KindTable, 0, 1, 8, 2), call(0, api.OpRetype, 3, api.KindFrame, 0, 1, 10, 2),
			call(0, api.OpMapTable, 8, 4, 0), call(0, api.OpMapTable, 9, 4, 0),
			call(0, api.OpMapFrame, 10, 4, 0, 3), call(0, api.OpMapFrame, 11, 4, 64, uint64(1+g.next(3))))
	}
	return g
}

func (g *gen) next(n int) int {
	g.seed = g.seed*6364136223846793005 + 1442695040888963407
	return int(g.seed >> 33 % uint64(n))
}

func (g *gen) of(list ...int) int { return list[g.next(len(list))] }

// addr is the address of a slot of a thread's node: mostly one that was empty
// at first, now and then nothing.
func (g *gen) addr() uint64 {
	switch x := g.next(60); {
	case x == 0:
		return uint64(g.of(16, 4095, 0x105))
	case x < 7:
		return uint64(g.next(8))
	}
	return uint64(8 + g.next(8))
}

// with is an address whose slot contains a capability of that kind, if the
// thread has one in its node.
func (g *gen) with(w *world.World, t int, kind int) uint64 {
	var node int
	var list []int
	for _, h := range w.View().Caps {
		if h.Slot == (api.Slot{Node: t, Index: api.SlotNodes}) {
			node = h.Cap.Obj
		}
	}
	for _, h := range w.View().Caps {
		if h.Slot.Node == node && h.Cap.Kind == kind {
			list = append(list, h.Slot.Index)
		}
	}
	if len(list) == 0 || g.next(25) == 0 {
		return g.addr()
	}
	return uint64(list[g.next(len(list))])
}

// access is a load or a store of thread t, mostly of a page that it has mapped.
func (g *gen) access(w *world.World, core, t int) api.Event {
	e := api.Event{Kind: g.of(api.EvLoad, api.EvLoad, api.EvStore), Core: core, Value: uint64(g.next(1000))}
	v := w.View()
	page := g.of(0, 1, 2, 8, 64, 511)
	if g.next(80) > 0 {
		var list []api.Cap
		for _, h := range v.Caps {
			if h.Cap.Kind == api.KindFrame && h.Cap.Serial != 0 && v.Pools[h.Cap.Serial%32/4].Serials[h.Cap.Serial%4] == h.Cap.Serial && owns(v, t, h.Cap.Serial) {
				list = append(list, h.Cap)
			}
		}
		if len(list) == 0 {
			return api.Event{Kind: api.EvCall, Core: core, Call: g.call(w, t)}
		}
		c := list[g.next(len(list))]
		page = c.Page
		if g.next(40) > 0 && c.Rights&api.Write == 0 {
			e.Kind = api.EvLoad
		}
	}
	e.Va = uint64(page*64 + g.next(8)*8)
	if g.next(200) == 0 {
		e.Va += uint64(g.of(1, 4, 32768, 1<<40))
	}
	return e
}

// owns reports whether the space of thread t has that serial.
func owns(v api.View, t, serial int) bool {
	for _, h := range v.Caps {
		if h.Slot == (api.Slot{Node: t, Index: api.SlotSpace}) {
			return v.Pools[serial%32/4].Roots[serial%4] == h.Cap.Obj
		}
	}
	return false
}

// call is a call of thread t.
func (g *gen) call(w *world.World, t int) api.Call {
	c := api.Call{}
	set := func(op int, args ...uint64) {
		c.Op = uint64(op)
		copy(c.Args[:], args)
	}
	kind := func(k int) uint64 { return g.with(w, t, k) }
	page := uint64(g.of(0, 0, 0, 1, 1, 2, 8, 64, 511)) * 64
	give := uint64(api.NoAddr)
	if g.next(3) == 0 {
		give = g.addr()
	}
	any := g.addr()
	lone, sending, receiving := len(w.View().Queue) < 2, 0, 0
	for _, x := range w.View().Threads {
		switch x.State {
		case api.Sending:
			sending++
		case api.Receiving:
			receiving++
		}
	}
	switch g.next(42) {
	case 0, 1, 2, 3:
		k, size := g.of(3, 3, 3, 4, 4, 4, 5, 6, 8, 9, 9), 0
		if g.next(6) == 0 {
			k, size = g.of(api.KindUntyped, api.KindNode), 1+g.next(4)
		}
		set(api.OpRetype, kind(api.KindUntyped), uint64(k), uint64(size), kind(api.KindNode), any, uint64(1+g.next(2)))
	case 4, 5, 6:
		set(api.OpCopy, kind(g.of(2, 3, 3, 3, 4, 5, 6, 8, 9)), g.addr(), uint64(g.of(7, 7, 3, 1)))
	case 7, 8:
		set(api.OpMint, kind(g.of(api.KindEndpoint, api.KindNode)), any, 7, uint64(g.of(1, 2, 77, 0x8000)))
	case 9:
		set(api.OpMove, any, g.addr())
	case 10:
		set(api.OpSwap, any, g.addr())
	case 11, 12, 13:
		set(api.OpDelete, any)
	case 14:
		set(api.OpRevoke, kind(g.of(1, 1, 3, 3, 8, 8, 4, 9)), uint64(1+g.next(3)))
	case 15, 16, 17:
		set(api.OpMapTable, kind(api.KindTable), kind(api.KindRoot), page)
	case 18:
		set(api.OpUnmapTable, kind(api.KindTable))
	case 19, 20, 21, 22, 23:
		set(api.OpMapFrame, kind(api.KindFrame), kind(api.KindRoot), page, uint64(g.of(1, 3, 3, 3)))
	case 24:
		set(api.OpUnmapFrame, kind(api.KindFrame))
	case 25:
		set(api.OpEnable, kind(api.KindControl), kind(api.KindPool))
	case 26:
		set(api.OpAssign, kind(api.KindPool), kind(api.KindRoot))
	case 27, 28:
		if lone && receiving == 0 && g.next(30) > 0 {
			return g.call(w, t)
		}
		set(g.of(api.OpSend, api.OpCall), kind(api.KindEndpoint), give, uint64(g.next(100)), 2, 3, 4)
	case 29, 30:
		if lone && sending == 0 && g.next(30) > 0 {
			return g.call(w, t)
		}
		set(api.OpRecv, kind(api.KindEndpoint), give)
	case 31, 32:
		set(api.OpReply, uint64(g.next(100)))
	case 33:
		set(api.OpYield)
	case 34, 35:
		own := g.next(3)
		set(api.OpBind, kind(api.KindThread), uint64(own), kind([]int{api.KindNode, api.KindRoot, api.KindEndpoint}[own]))
	case 36:
		set(api.OpUnbind, kind(api.KindThread), uint64(g.of(0, 1, 2, 2, 2, 2, 2, 2)))
	case 37, 38, 39, 40:
		op := api.OpResume
		if g.next(20) == 0 {
			op = api.OpSuspend
		}
		set(op, kind(api.KindThread))
	default:
		set(api.OpPrio, kind(api.KindThread), uint64(g.next(8)))
	}
	if g.next(50) == 0 {
		c.Args[g.next(6)] = uint64(g.of(5, 4096, 1<<40))
	}
	return c
}

// event is the next event of a script, for a world as it stands.
func (g *gen) event(w *world.World) api.Event {
	if len(g.first) > 0 {
		e := g.first[0]
		g.first = g.first[1:]
		return e
	}
	v := w.View()
	core := g.next(len(v.Cores))
	if v.Cores[core] == 0 && g.next(5) > 0 || g.next(12) == 0 {
		id := 0
		if len(v.Queue) > 0 && g.next(5) > 0 {
			id = v.Queue[g.next(len(v.Queue))]
		}
		if len(v.Threads) > 0 && g.next(30) == 0 {
			id = v.Threads[g.next(len(v.Threads))].ID
		}
		return api.Event{Kind: api.EvPick, Core: core, Thread: id}
	}
	switch g.next(12) {
	case 0, 1, 2:
		return g.access(w, core, v.Cores[core])
	case 3:
		return api.Event{Kind: api.EvPrefetch, Core: core, Page: g.of(0, 0, 1, 2, 8, 64, 511)}
	case 4:
		return api.Event{Kind: api.EvEvict, Core: core, Set: g.next(4), Way: g.next(2)}
	}
	return api.Event{Kind: api.EvCall, Core: core, Call: g.call(w, v.Cores[core])}
}

// ready reports whether a thread of a world can go on.
func ready(w *world.World) bool { return len(w.View().Queue) > 0 }
