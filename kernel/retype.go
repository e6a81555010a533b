package kernel

import (
	"seisin/api"
	"seisin/carve"
	"seisin/kinds"
	"seisin/realm"
)

// indexes is by how much the count of a retype is multiplied in N[2], beside
// the index.
const indexes = 1 << api.MaxRadix

// retype makes objects of the untyped of a, and stores their capabilities in
// slots of the node of b.
func retype(r *realm.Realm, a api.Slot, b api.Slot, o api.Order) api.Errno {
	id, ok := object(r, a, api.KindUntyped)
	if !ok {
		return api.ErrKind
	}
	node, ok := object(r, b, api.KindNode)
	if !ok {
		return api.ErrKind
	}
	u, _ := r.Arena().Get(id)
	if len(r.Hold().Below(a)) == 0 {
		u.Mark = 0
	}
	kind, size := o.N[0], o.N[1]
	index, count := o.N[2]%indexes, o.N[2]/indexes
	pieces, mark, code := carve.Carve(u.Frames, u.Mark, kinds.Frames(kind, size), count)
	if code != api.OK {
		return code
	}
	if code := vacant(r, node, index, count); code != api.OK {
		return code
	}
	for _, piece := range pieces {
		if r.Arena().Next(u.First+piece) == 0 {
			return api.ErrFull
		}
	}
	// Either all objects are made or none is.
	for _, piece := range pieces {
		if !free(r, kind, u.First+piece, kinds.Frames(kind, size)) {
			return api.ErrBusy
		}
	}
	for i, piece := range pieces {
		made, code := r.Make(kind, size, u.First+piece)
		if code != api.OK {
			return code
		}
		r.Hold().Child(a, api.Slot{Node: node, Index: index + i}, first(kind, made))
	}
	return r.Arena().SetMark(id, mark)
}

// vacant tells whether a node has the slots from index on, and they are empty.
func vacant(r *realm.Realm, node int, index int, count int) api.Errno {
	if index+count > r.Hold().Slots().Size(node) {
		return api.ErrRange
	}
	for i := range count {
		c, _ := r.Hold().Get(api.Slot{Node: node, Index: index + i})
		if c.Kind != api.KindNone {
			return api.ErrFull
		}
	}
	return api.OK
}

// free reports whether no object but untypeds lies in the n frames from at on.
func free(r *realm.Realm, kind int, at int, n int) bool {
	for _, x := range r.Arena().All() {
		around := x.Kind == api.KindUntyped && carve.Within(at, n, x.First, x.Frames)
		inside := kind == api.KindUntyped && carve.Within(x.First, x.Frames, at, n)
		if carve.Meet(at, n, x.First, x.Frames) && !around && !inside {
			return false
		}
	}
	return true
}

// first returns the first capability of an object.
func first(kind int, id int) api.Cap {
	c := api.Cap{Kind: kind, Obj: id}
	switch kind {
	case api.KindFrame:
		c.Rights = api.Read | api.Write
	case api.KindEndpoint:
		c.Rights = allRights
	}
	return c
}
