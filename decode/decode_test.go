package decode_test

import (
	"math"
	"strings"
	"testing"

	"seisin/api"
	"seisin/decode"
	"seisin/kinds"
)

// table is that of the chapter: for each Op the words, each with its field and
// its bounds; s and k are an OpRetype's kind and size.
var table = map[uint64]string{
	1: "A:a k s B:a i:0-15 c:1-4", 2: "A:a B:a 0:0-7", 3: "A:a B:a 0:0-7 W:w", 4: "A:a B:a", 5: "A:a B:a", 6: "A:a", 7: "A:a 0:1-64",
	8: "A:a B:a W:w", 9: "A:a", 10: "A:a B:a W:w 0:0-7", 11: "A:a", 12: "A:a B:a", 13: "A:a B:a",
	14: "A:a 0:g m n o p", 15: "A:a 0:g m n o p", 16: "A:a 0:g", 17: "m n o p", 18: "", 19: "A:a 0:0-2 B:a", 20: "A:a 0:0-2", 21: "A:a", 22: "A:a", 23: "A:a 0:0-7",
}

func bounds(word string) (uint64, uint64) {
	field, of, _ := strings.Cut(word, ":")
	switch {
	case strings.Contains("kswmnop", field) || of == "w":
		return 0, math.MaxUint64
	case of == "a":
		return 0, 4095
	case of == "g":
		return 0, 4096
	}
	limits := map[string][2]uint64{"0-15": {0, 15}, "1-4": {1, 4}, "0-7": {0, 7}, "1-64": {1, 64}, "0-2": {0, 2}}[of]
	return limits[0], limits[1]
}

// model decodes by the table.
func model(c api.Call) (api.Order, api.Errno) {
	text, ok := table[c.Op]
	if !ok {
		return api.Order{}, api.ErrArg
	}
	words := strings.Fields(text)
	for i := len(words); i < 6; i++ {
		if c.Args[i] != 0 {
			return api.Order{}, api.ErrArg
		}
	}
	if c.Op == api.OpRetype && (c.Args[1] > 100 || c.Args[2] > 100 || kinds.Frames(int(c.Args[1]), int(c.Args[2])) == 0) {
		return api.Order{}, api.ErrArg
	}
	o := api.Order{Op: int(c.Op)}
	for i, word := range words {
		w := c.Args[i]
		if low, high := bounds(word); w < low || w > high {
			return api.Order{}, api.ErrRange
		}
		switch word[0] {
		case 'A':
			o.A = int(w)
		case 'B':
			o.B = int(w)
		case '0', 'k':
			o.N[0] = int(w)
		case 's':
			o.N[1] = int(w)
		case 'i':
			o.N[2] += int(w)
		case 'c':
			o.N[2] += 16 * int(w)
		case 'W':
			o.W = w
		default:
			o.Msg[word[0]-'m'] = w
		}
	}
	return o, api.OK
}

func decodes(t *testing.T, c api.Call) {
	t.Helper()
	want, code := model(c)
	o, e := decode.Decode(c)
	if o != want || e != code {
		t.Fatalf("Decode(%+v) = %+v, %d; want %+v, %d", c, o, e, want, code)
	}
	if e != api.OK {
		return
	}
	if back, e := decode.Encode(o); back != c || e != api.OK {
		t.Fatalf("Encode(%+v) = %+v, %d; want %+v", o, back, e, c)
	}
}

// interesting are words at and around all bounds.
var interesting = []uint64{0, 1, 2, 3, 4, 5, 7, 8, 9, 15, 16, 63, 64, 65, 4095, 4096, 4097, 1 << 32, 1<<32 | 1, 1 << 63, math.MaxUint64 - 1, math.MaxUint64}

func TestP28_1Example(t *testing.T) {
	for _, x := range []struct {
		call api.Call
		want api.Order
		code api.Errno
	}{
		{api.Call{Op: api.OpCopy, Args: [6]uint64{3, 9, 1}}, api.Order{Op: api.OpCopy, A: 3, B: 9, N: [3]int{1}}, api.OK},
		{api.Call{Op: api.OpCopy, Args: [6]uint64{3, 9, 1, 1}}, api.Order{}, api.ErrArg},
		{api.Call{Op: api.OpCopy, Args: [6]uint64{3, 4096, 1}}, api.Order{}, api.ErrRange},
		{api.Call{Op: 99}, api.Order{}, api.ErrArg},
		{api.Call{Op: api.OpRetype, Args: [6]uint64{3, 3, 0, 1, 8, 2}}, api.Order{Op: api.OpRetype, A: 3, B: 1, N: [3]int{3, 0, 40}}, api.OK},
		{api.Call{Op: api.OpSend, Args: [6]uint64{1, 4096, 5, 6, 7, 8}}, api.Order{Op: api.OpSend, A: 1, N: [3]int{4096}, Msg: [4]uint64{5, 6, 7, 8}}, api.OK},
		{api.Call{Op: api.OpReply, Args: [6]uint64{5, 6, 7, 8}}, api.Order{Op: api.OpReply, Msg: [4]uint64{5, 6, 7, 8}}, api.OK},
		{api.Call{Op: api.OpBind, Args: [6]uint64{5, 2, 7}}, api.Order{Op: api.OpBind, A: 5, N: [3]int{2}, B: 7}, api.OK},
		{api.Call{Op: api.OpYield}, api.Order{Op: api.OpYield}, api.OK},
	} {
		if o, code := decode.Decode(x.call); o != x.want || code != x.code {
			t.Errorf("Decode(%+v) = %+v, %d; want %+v, %d", x.call, o, code, x.want, x.code)
		}
	}
}

// valid returns a call of an Op in which every word is within its bounds.
func valid(op uint64, pick func(low, high uint64) uint64) api.Call {
	c := api.Call{Op: op}
	for i, word := range strings.Fields(table[op]) {
		switch word {
		case "k":
			c.Args[i] = api.KindNode
		case "s":
			c.Args[i] = 3
		default:
			c.Args[i] = pick(bounds(word))
		}
	}
	return c
}

func TestP28_1EveryWord(t *testing.T) {
	picks := []func(low, high uint64) uint64{
		func(low, _ uint64) uint64 { return low },
		func(_, high uint64) uint64 { return high },
		func(low, _ uint64) uint64 { return low + 1 },
	}
	for op := range uint64(26) {
		for _, pick := range picks {
			c := valid(op, pick)
			decodes(t, c)
			for i := range 6 {
				for _, w := range interesting {
					x := c
					x.Args[i] = w
					decodes(t, x)
					// A second word that is wrong, too: which error comes first.
					for j := range 6 {
						for _, v := range []uint64{1, 4097, math.MaxUint64} {
							y := x
							y.Args[j] = v
							decodes(t, y)
						}
					}
				}
			}
		}
	}
	for _, op := range []uint64{0, 24, 25, 1 << 32, 1<<32 + 2, 1 << 63, math.MaxUint64, math.MaxUint64 - 5} {
		decodes(t, api.Call{Op: op})
		decodes(t, api.Call{Op: op, Args: [6]uint64{1, 2, 3}})
	}
}

func TestP28_1Retype(t *testing.T) {
	for kind := range uint64(12) {
		for size := range uint64(67) {
			for _, index := range []uint64{0, 15, 16} {
				for count := range uint64(6) {
					decodes(t, api.Call{Op: api.OpRetype, Args: [6]uint64{3, kind, size, 1, index, count}})
					decodes(t, api.Call{Op: api.OpRetype, Args: [6]uint64{4096, kind, size, 1, index, count}})
				}
			}
		}
	}
	for _, w := range interesting {
		decodes(t, api.Call{Op: api.OpRetype, Args: [6]uint64{3, w, 0, 1, 0, 1}})
		decodes(t, api.Call{Op: api.OpRetype, Args: [6]uint64{3, 1, w, 1, 0, 1}})
		decodes(t, api.Call{Op: api.OpRetype, Args: [6]uint64{3, w, w, 1, 0, 1}})
	}
}

func TestP28_1EncodeErrors(t *testing.T) {
	numbers := []int{math.MinInt, -4096, -16, -1, 0, 1, 5, 16, 31, 32, 64, 79, 80, 100, 4096, 1 << 40, math.MaxInt}
	for op := -1; op <= 25; op++ {
		c := valid(uint64(op), func(low, _ uint64) uint64 { return low + 1 })
		o, code := decode.Decode(c)
		if code != api.OK {
			if x, code := decode.Encode(api.Order{Op: op}); x != (api.Call{}) || code != api.ErrForm {
				t.Errorf("Encode of Op %d: %+v, %d", op, x, code)
			}
			continue
		}
		for _, n := range numbers {
			for field := range 11 {
				x := o
				switch field {
				case 0:
					x.A = n
				case 1:
					x.B = n
				case 2:
					x.C = n
				case 3, 4, 5:
					x.N[field-3] = n
				case 6:
					x.W = uint64(n)
				default:
					x.Msg[field-7] = uint64(n)
				}
				encodes(t, x)
			}
		}
	}
	for _, op := range []int{math.MinInt, math.MaxInt, 1 << 32} {
		encodes(t, api.Order{Op: op})
	}
}

// encodes checks that Encode finds a call exactly if the model decodes it to o.
func encodes(t *testing.T, o api.Order) {
	t.Helper()
	c := api.Call{Op: uint64(o.Op)}
	for i, word := range strings.Fields(table[c.Op]) {
		switch word[0] {
		case 'A':
			c.Args[i] = uint64(o.A)
		case 'B':
			c.Args[i] = uint64(o.B)
		case '0', 'k':
			c.Args[i] = uint64(o.N[0])
		case 's':
			c.Args[i] = uint64(o.N[1])
		case 'i':
			c.Args[i] = uint64(o.N[2]) % 16
		case 'c':
			c.Args[i] = uint64(o.N[2]) / 16
		case 'W':
			c.Args[i] = o.W
		default:
			c.Args[i] = o.Msg[word[0]-'m']
		}
	}
	got, code := decode.Encode(o)
	if back, e := model(c); e == api.OK && back == o {
		if got != c || code != api.OK {
			t.Fatalf("Encode(%+v) = %+v, %d; want %+v", o, got, code, c)
		}
	} else if got != (api.Call{}) || code != api.ErrForm {
		t.Fatalf("Encode(%+v) = %+v, %d; want ErrForm", o, got, code)
	}
}

func TestP28_2RandomCalls(t *testing.T) {
	seed := uint64(1)
	next := func(n uint64) uint64 {
		seed = seed*6364136223846793005 + 1442695040888963407
		return seed >> 33 % n
	}
	for range 200000 {
		c := api.Call{Op: next(25)}
		for i := range c.Args {
			if next(3) > 0 {
				c.Args[i] = interesting[next(uint64(len(interesting)))]
			}
		}
		decodes(t, c)
	}
}
