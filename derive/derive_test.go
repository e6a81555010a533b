package derive_test

import (
	"math"
	"testing"

	"seisin/api"
	"seisin/derive"
)

var plain = []api.Cap{{Kind: api.KindTable, Obj: 4}, {Kind: api.KindRoot, Obj: 65535}, {Kind: api.KindPool, Obj: 1}, {Kind: api.KindThread, Obj: 9}}

var nodes = []api.Cap{{Kind: api.KindNode, Obj: 4}, {Kind: api.KindNode, Obj: 4, Guard: 5, Bits: 8}, {Kind: api.KindNode, Obj: 7, Guard: 4095, Bits: 12}}

var invalid = []api.Cap{{Kind: api.KindFrame, Obj: 4}, {Kind: api.KindTable}, {Kind: 10, Obj: 1}, {Kind: -1}, {Kind: api.KindNone, Obj: 1}, {Kind: api.KindUntyped}, {Kind: api.KindControl, Badge: 1}, {Kind: api.KindEndpoint, Obj: 3, Rights: 8}, {Kind: api.KindRoot, Obj: 4, Rights: 1}}

func fails(t *testing.T, c api.Cap, mask int, want api.Errno) {
	t.Helper()
	if got, code := derive.Copy(c, mask); got != (api.Cap{}) || code != want {
		t.Errorf("Copy(%+v, %d) = %+v, %d; want %d", c, mask, got, code, want)
	}
	for _, data := range []uint64{0, 5, 1 << 16, 1 << 24, math.MaxUint64} {
		if got, code := derive.Mint(c, mask, data); got != (api.Cap{}) || code != want {
			t.Errorf("Mint(%+v, %d, %d) = %+v, %d; want %d", c, mask, data, got, code, want)
		}
	}
}

func copied(t *testing.T, c api.Cap, mask int, want api.Cap) {
	t.Helper()
	if got, code := derive.Copy(c, mask); got != want || code != api.OK {
		t.Errorf("Copy(%+v, %d) = %+v, %d; want %+v", c, mask, got, code, want)
	}
}

func minted(t *testing.T, c api.Cap, mask int, data uint64, want api.Cap, code api.Errno) {
	t.Helper()
	if got, e := derive.Mint(c, mask, data); got != want || e != code {
		t.Errorf("Mint(%+v, %d, %x) = %+v, %d; want %+v, %d", c, mask, data, got, e, want, code)
	}
}

func frame(r, serial, page int) api.Cap {
	return api.Cap{Kind: api.KindFrame, Obj: 2, Rights: r, Serial: serial, Page: page}
}

func end(r int, badge uint64) api.Cap {
	return api.Cap{Kind: api.KindEndpoint, Obj: 6, Rights: r, Badge: badge}
}

func TestP14_1Errors(t *testing.T) {
	for _, mask := range []int{math.MinInt, -1, 8, 15, 1 << 32, math.MaxInt} {
		for _, c := range append(append([]api.Cap{{}, {Kind: api.KindControl}, {Kind: api.KindUntyped, Obj: 1}, frame(2, 0, 0), end(7, 0)}, plain...), nodes...) {
			fails(t, c, mask, api.ErrArg)
		}
	}
	for mask := range 8 {
		for _, c := range invalid {
			fails(t, c, mask, api.ErrArg)
		}
		fails(t, api.Cap{}, mask, api.ErrEmpty)
		fails(t, api.Cap{Kind: api.KindControl}, mask, api.ErrKind)
		fails(t, api.Cap{Kind: api.KindUntyped, Obj: 9}, mask, api.ErrKind)
	}
}

func TestP14_1Copies(t *testing.T) {
	for mask := range 8 {
		for _, c := range append(plain, nodes...) {
			copied(t, c, mask, c)
		}
		for r := range 8 {
			for _, badge := range []uint64{0, 1, 1<<24 - 1} {
				copied(t, end(r, badge), mask, end(r&mask, badge))
			}
		}
		for r := 1; r <= 3; r++ {
			for _, c := range []api.Cap{frame(r, 0, 0), frame(r, 3, 5), frame(r, 1<<24-1, 511)} {
				if r&mask == 0 {
					fails(t, c, mask, api.ErrRights)
				} else {
					copied(t, c, mask, frame(r&mask, 0, 0))
				}
			}
		}
	}
}

func TestP14_2Endpoints(t *testing.T) {
	for mask := range 8 {
		for r := range 8 {
			for _, data := range []uint64{0, 1, 77, 1<<24 - 1} {
				minted(t, end(r, 0), mask, data, end(r&mask, data), api.OK)
				minted(t, end(r, 5), mask, data, api.Cap{}, api.ErrRights)
			}
			for _, data := range []uint64{1 << 24, 1 << 32, math.MaxUint64} {
				minted(t, end(r, 0), mask, data, api.Cap{}, api.ErrRange)
				minted(t, end(r, 5), mask, data, api.Cap{}, api.ErrRange)
			}
		}
	}
}

func TestP14_2Nodes(t *testing.T) {
	for _, c := range nodes {
		for data := range uint64(1 << 16) {
			guard, bits := int(data%4096), int(data/4096)
			want, code := api.Cap{Kind: c.Kind, Obj: c.Obj, Guard: guard, Bits: bits}, api.OK
			if bits > 12 || guard >= 1<<uint(bits) {
				want, code = api.Cap{}, api.ErrRange
			}
			minted(t, c, int(data%8), data, want, code)
		}
		for _, data := range []uint64{1 << 16, 1<<16 | 0x8000, 1 << 32, 1 << 63, math.MaxUint64} {
			minted(t, c, 7, data, api.Cap{}, api.ErrRange)
		}
	}
}

func TestP14_2OtherKinds(t *testing.T) {
	for _, c := range plain {
		minted(t, c, 0, 0, c, api.OK)
		minted(t, c, 7, 1, api.Cap{}, api.ErrArg)
		minted(t, c, 7, math.MaxUint64, api.Cap{}, api.ErrArg)
	}
	minted(t, frame(3, 3, 5), 1, 0, frame(1, 0, 0), api.OK)
	minted(t, frame(3, 3, 5), 1, 1, api.Cap{}, api.ErrArg)
	minted(t, frame(2, 3, 5), 1, 1, api.Cap{}, api.ErrRights)
}

func TestP14_3RightsNeverGrow(t *testing.T) {
	list := append(append([]api.Cap{frame(1, 2, 3), frame(2, 0, 0), frame(3, 1, 0), end(0, 0), end(5, 0), end(7, 9)}, plain...), nodes...)
	for _, c := range list {
		for mask := range 8 {
			for _, data := range []uint64{0, 3, 0x8000} {
				for range 2 {
					got, code := derive.Mint(c, mask, data)
					if code != api.OK {
						break
					}
					if got.Rights&^c.Rights != 0 || got.Kind != c.Kind || got.Obj != c.Obj || c.Badge != 0 && got.Badge != c.Badge || got.Serial != 0 || got.Page != 0 {
						t.Errorf("Mint(%+v, %d, %d) = %+v", c, mask, data, got)
					}
				}
			}
		}
	}
}
