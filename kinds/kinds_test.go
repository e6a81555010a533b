package kinds_test

import (
	"math"
	"testing"

	"seisin/api"
	"seisin/kinds"
)

var far = []int{math.MinInt, -64, -1, 10, 64, 65, 1 << 40, math.MaxInt}

func TestP10_1Frames(t *testing.T) {
	for kind := -2; kind <= 12; kind++ {
		for size := -2; size <= 70; size++ {
			want := 0
			switch kind {
			case api.KindUntyped:
				if size >= 1 && size <= 64 {
					want = size
				}
			case api.KindNode:
				if size >= 1 && size <= 4 {
					want = []int{1, 1, 2, 4}[size-1]
				}
			case api.KindFrame, api.KindTable, api.KindRoot, api.KindPool, api.KindEndpoint, api.KindThread:
				if size == 0 {
					want = 1
				}
			}
			if got := kinds.Frames(kind, size); got != want {
				t.Errorf("Frames(%d, %d) = %d; want %d", kind, size, got, want)
			}
		}
	}
	for _, n := range []int{math.MinInt, -1, 65, 1 << 40, math.MaxInt} {
		for kind := range 10 {
			if got := kinds.Frames(kind, n); got != 0 {
				t.Errorf("Frames(%d, %d) = %d", kind, n, got)
			}
		}
		if kinds.Frames(n, 0) != 0 || kinds.Frames(n, 1) != 0 || kinds.Frames(n, n) != 0 {
			t.Errorf("Frames(%d, ..)", n)
		}
	}
}

func TestP10_1Slots(t *testing.T) {
	for kind := -2; kind <= 12; kind++ {
		for size := -2; size <= 70; size++ {
			want := 0
			if kind == api.KindNode && size >= 1 && size <= 4 {
				want = []int{2, 4, 8, 16}[size-1]
			}
			if kind == api.KindThread && size == 0 {
				want = 3
			}
			if got := kinds.Slots(kind, size); got != want {
				t.Errorf("Slots(%d, %d) = %d; want %d", kind, size, got, want)
			}
		}
	}
	for _, n := range far {
		if n != 0 && (kinds.Slots(n, 0) != 0 || kinds.Slots(api.KindNode, n) != 0 || kinds.Slots(api.KindThread, n) != 0) {
			t.Errorf("Slots of %d", n)
		}
	}
}

func TestP10_1NameOf(t *testing.T) {
	names := map[int]string{
		api.KindNone: "none", api.KindUntyped: "untyped", api.KindNode: "node", api.KindFrame: "frame", api.KindTable: "table",
		api.KindRoot: "root", api.KindPool: "pool", api.KindControl: "control", api.KindEndpoint: "endpoint", api.KindThread: "thread",
	}
	for kind, want := range names {
		if got := kinds.Name(kind); got != want {
			t.Errorf("Name(%d) = %q; want %q", kind, got, want)
		}
		if got, ok := kinds.Of(want); got != kind || !ok {
			t.Errorf("Of(%q) = %d, %v; want %d", want, got, ok, kind)
		}
	}
	for _, kind := range far {
		if got := kinds.Name(kind); got != "" {
			t.Errorf("Name(%d) = %q", kind, got)
		}
	}
	for _, name := range []string{"", " ", "Node", "nod", "nodes", "node ", " node", "thread\n", "untype", "\x00", "0"} {
		if got, ok := kinds.Of(name); got != 0 || ok {
			t.Errorf("Of(%q) = %d, %v", name, got, ok)
		}
	}
}
