package script_test

import (
	"math"
	"slices"
	"strings"
	"testing"

	"seisin/api"
	"seisin/script"
)

// pairs are events with their lines.
var pairs = []struct {
	e    api.Event
	line string
}{
	{api.Event{Kind: api.EvPick}, "pick 0 0"},
	{api.Event{Kind: api.EvPick, Core: 2, Thread: 65535}, "pick 2 65535"},
	{api.Event{Kind: api.EvPick, Core: 999999, Thread: 999999}, "pick 999999 999999"},
	{api.Event{Kind: api.EvCall}, "call 0 0 0 0 0 0 0 0"},
	{api.Event{Kind: api.EvCall, Core: 1, Call: api.Call{Op: 14, Args: [6]uint64{1, 20, 300, 4000, 50000, math.MaxUint64}}}, "call 1 14 1 20 300 4000 50000 18446744073709551615"},
	{api.Event{Kind: api.EvCall, Core: 1, Call: api.Call{Op: math.MaxUint64, Args: [6]uint64{1 << 63}}}, "call 1 18446744073709551615 9223372036854775808 0 0 0 0 0"},
	{api.Event{Kind: api.EvLoad, Core: 1, Va: 64}, "load 1 64"},
	{api.Event{Kind: api.EvLoad, Va: math.MaxUint64}, "load 0 18446744073709551615"},
	{api.Event{Kind: api.EvStore, Core: 1, Va: 64, Value: 7}, "store 1 64 7"},
	{api.Event{Kind: api.EvStore, Va: math.MaxUint64, Value: math.MaxUint64 - 5}, "store 0 18446744073709551615 18446744073709551610"},
	{api.Event{Kind: api.EvEvict, Core: 1, Set: 2, Way: 3}, "evict 1 2 3"},
	{api.Event{Kind: api.EvEvict, Set: 999999, Way: 999999}, "evict 0 999999 999999"},
	{api.Event{Kind: api.EvPrefetch, Core: 1, Page: 511}, "prefetch 1 511"},
	{api.Event{Kind: api.EvPrefetch, Page: 999999}, "prefetch 0 999999"},
}

// full has a number in every field.
func full(kind int) api.Event {
	return api.Event{Kind: kind, Core: 1, Thread: 2, Call: api.Call{Op: 3, Args: [6]uint64{4, 5, 6, 7, 8, 9}}, Va: 10, Value: 11, Set: 12, Way: 13, Page: 14}
}

func TestP35_1Line(t *testing.T) {
	for _, x := range pairs {
		if got, code := script.Line(x.e); got != x.line || code != api.OK {
			t.Errorf("Line(%+v) = %q, %d; want %q", x.e, got, code, x.line)
		}
	}
	for kind, want := range map[int]string{api.EvPick: "pick 1 2", api.EvCall: "call 1 3 4 5 6 7 8 9", api.EvLoad: "load 1 10", api.EvStore: "store 1 10 11", api.EvEvict: "evict 1 12 13", api.EvPrefetch: "prefetch 1 14"} {
		if got, code := script.Line(full(kind)); got != want || code != api.OK {
			t.Errorf("Line of all fields = %q, %d; want %q", got, code, want)
		}
		// Fields that the line does not contain may be anything.
		e := full(kind)
		if kind != api.EvPick {
			e.Thread = -1
		}
		if kind != api.EvEvict {
			e.Set, e.Way = -1, 1000000
		}
		if kind != api.EvPrefetch {
			e.Page = math.MinInt
		}
		if got, code := script.Line(e); got != want || code != api.OK {
			t.Errorf("Line with other fields = %q, %d; want %q", got, code, want)
		}
	}
	for _, kind := range []int{0, 7, -1, math.MinInt, math.MaxInt} {
		e := full(kind)
		e.Core = -1
		if got, code := script.Line(e); got != "" || code != api.ErrArg {
			t.Errorf("Line of kind %d = %q, %d", kind, got, code)
		}
	}
}

func TestP35_1LineBounds(t *testing.T) {
	for _, n := range []int{-1, 1000000, math.MinInt, math.MaxInt, 1 << 32} {
		var bad []api.Event
		for kind := api.EvPick; kind <= api.EvPrefetch; kind++ {
			e := full(kind)
			e.Core = n
			bad = append(bad, e)
		}
		pick, set, way, page := full(api.EvPick), full(api.EvEvict), full(api.EvEvict), full(api.EvPrefetch)
		pick.Thread, set.Set, way.Way, page.Page = n, n, n, n
		for _, e := range append(bad, pick, set, way, page) {
			if got, code := script.Line(e); got != "" || code != api.ErrRange {
				t.Errorf("Line(%+v) = %q, %d", e, got, code)
			}
			if got, code := script.Print([]api.Event{full(api.EvLoad), e, {}}); got != "" || code != api.ErrRange {
				t.Errorf("Print = %q, %d", got, code)
			}
		}
	}
}

func TestP35_1Print(t *testing.T) {
	var events []api.Event
	want := ""
	for _, x := range pairs {
		events = append(events, x.e)
		want += x.line + "\n"
	}
	if got, code := script.Print(events); got != want || code != api.OK {
		t.Errorf("Print = %q, %d; want %q", got, code, want)
	}
	if got, code := script.Print(nil); got != "" || code != api.OK {
		t.Errorf("Print of nothing = %q, %d", got, code)
	}
	if got, code := script.Print([]api.Event{full(api.EvLoad), {Kind: 9}, {Kind: api.EvLoad, Core: -1}}); got != "" || code != api.ErrArg {
		t.Errorf("Print = %q, %d", got, code)
	}
}

func TestP35_1Full(t *testing.T) {
	// Lines of sixteen bytes, with the byte 10: exactly as much as may be.
	e := api.Event{Kind: api.EvPick, Core: 1234, Thread: 56789}
	line, _ := script.Line(e)
	if len(line) != 15 {
		t.Fatalf("%q", line)
	}
	list := make([]api.Event, api.MaxScript/16)
	for i := range list {
		list[i] = e
	}
	text, code := script.Print(list)
	if len(text) != api.MaxScript || code != api.OK {
		t.Fatalf("Print: %d bytes, %d", len(text), code)
	}
	if back, at, code := script.Parse(text); len(back) != len(list) || at != 0 || code != api.OK {
		t.Errorf("Parse: %d events, %d, %d", len(back), at, code)
	}
	if back, at, code := script.Parse(text + "\n"); len(back) != 0 || at != 0 || code != api.ErrFull {
		t.Errorf("Parse: %d events, %d, %d", len(back), at, code)
	}
	if back, at, code := script.Parse(strings.Repeat("x", api.MaxScript+1)); len(back) != 0 || at != 0 || code != api.ErrFull {
		t.Errorf("Parse: %d events, %d, %d", len(back), at, code)
	}
	if back, at, code := script.Parse(strings.Repeat("x", api.MaxScript)); len(back) != 0 || at != 1 || code != api.ErrForm {
		t.Errorf("Parse: %d events, %d, %d", len(back), at, code)
	}
	if text, code := script.Print(append(list, api.Event{Kind: api.EvPick})); text != "" || code != api.ErrFull {
		t.Errorf("Print of more: %d bytes, %d", len(text), code)
	}
	list[0].Core = 12345
	if text, code := script.Print(list); text != "" || code != api.ErrFull {
		t.Errorf("Print of one byte more: %d bytes, %d", len(text), code)
	}
	// The error of an event comes first, wherever it is.
	if text, code := script.Print(append(list, api.Event{Kind: 9})); text != "" || code != api.ErrArg {
		t.Errorf("Print of more, and an error: %d bytes, %d", len(text), code)
	}
}

func parses(t *testing.T, text string, want []api.Event, at int, code api.Errno) {
	t.Helper()
	got, line, e := script.Parse(text)
	if !slices.Equal(got, want) || line != at || e != code {
		t.Errorf("Parse(%q) = %+v, %d, %d; want %+v, %d, %d", text, got, line, e, want, at, code)
	}
}

func TestP35_1Parse(t *testing.T) {
	for _, x := range pairs {
		parses(t, x.line, []api.Event{x.e}, 0, api.OK)
		parses(t, x.line+"\n", []api.Event{x.e}, 0, api.OK)
		parses(t, x.line+"\n"+x.line, []api.Event{x.e, x.e}, 0, api.OK)
		parses(t, x.line+"\n\n", nil, 2, api.ErrForm)
		parses(t, "\n"+x.line, nil, 1, api.ErrForm)
		for _, bad := range []string{x.line + " ", " " + x.line, x.line + " 0", x.line + "x", x.line + "\r", strings.ToUpper(x.line), strings.Replace(x.line, " ", "  ", 1), strings.Replace(x.line, " ", "\t", 1), x.line[:strings.LastIndex(x.line, " ")], x.line[:strings.LastIndex(x.line, " ")+1], x.line[1:], "x" + x.line, x.line + "\x00"} {
			parses(t, bad, nil, 1, api.ErrForm)
			parses(t, x.line+"\n"+bad+"\nx", nil, 2, api.ErrForm)
		}
	}
	parses(t, "", nil, 0, api.OK)
	parses(t, "\n", nil, 1, api.ErrForm)
	parses(t, "pick 0 1\nload 0 08", nil, 2, api.ErrForm)
	parses(t, "pick", nil, 1, api.ErrForm)
	parses(t, "# pick 0 1", nil, 1, api.ErrForm)
}

func TestP35_1Numbers(t *testing.T) {
	for word, want := range map[string]uint64{"0": 0, "1": 1, "10": 10, "999999": 999999, "1000000": 1000000, "18446744073709551615": math.MaxUint64} {
		parses(t, "load 0 "+word, []api.Event{{Kind: api.EvLoad, Va: want}}, 0, api.OK)
		if want <= 999999 {
			parses(t, "pick 0 "+word, []api.Event{{Kind: api.EvPick, Thread: int(want)}}, 0, api.OK)
			parses(t, "load "+word+" 5", []api.Event{{Kind: api.EvLoad, Core: int(want), Va: 5}}, 0, api.OK)
		} else {
			parses(t, "pick 0 "+word, nil, 1, api.ErrForm)
			parses(t, "load "+word+" 5", nil, 1, api.ErrForm)
			parses(t, "evict 0 "+word+" 5", nil, 1, api.ErrForm)
			parses(t, "prefetch 0 "+word, nil, 1, api.ErrForm)
		}
	}
	for _, word := range []string{"", "00", "01", "+1", "-1", "-0", "1_0", "0x1", "1e3", "1.0", "a", "18446744073709551616", "99999999999999999999", "184467440737095516150", "１", "1\x00", "٣", " "} {
		for _, line := range []string{"load 0 ", "pick 0 ", "store 0 8 ", "call 0 1 2 3 4 5 6 ", "evict 0 1 ", "prefetch 0 "} {
			parses(t, line+word, nil, 1, api.ErrForm)
		}
		parses(t, "load "+word+" 8", nil, 1, api.ErrForm)
		parses(t, "call 0 "+word+" 1 2 3 4 5 6", nil, 1, api.ErrForm)
	}
}

func TestP35_2RoundTrips(t *testing.T) {
	seed := uint64(3)
	next := func(n int) int {
		seed = seed*6364136223846793005 + 1442695040888963407
		return int(seed >> 33 % uint64(n))
	}
	word := func() uint64 { return uint64(next(1<<30)) * uint64(next(1<<30)) * uint64(next(20)) }
	for range 300 {
		var list, clean []api.Event
		for range next(40) {
			e := api.Event{Kind: 1 + next(6), Core: next(1000000), Thread: next(1000000), Va: word(), Value: word(), Set: next(1000000), Way: next(1000000), Page: next(1000000), Call: api.Call{Op: word()}}
			for i := range e.Call.Args {
				e.Call.Args[i] = word()
			}
			list = append(list, e)
			c := api.Event{Kind: e.Kind, Core: e.Core}
			switch e.Kind {
			case api.EvPick:
				c.Thread = e.Thread
			case api.EvCall:
				c.Call = e.Call
			case api.EvLoad:
				c.Va = e.Va
			case api.EvStore:
				c.Va, c.Value = e.Va, e.Value
			case api.EvEvict:
				c.Set, c.Way = e.Set, e.Way
			case api.EvPrefetch:
				c.Page = e.Page
			}
			clean = append(clean, c)
		}
		text, code := script.Print(list)
		if code != api.OK {
			t.Fatal(code)
		}
		parses(t, text, clean, 0, api.OK)
		// A text that is changed a little: what is accepted is printed again.
		bytes := []byte(text)
		for range 20 {
			if len(bytes) == 0 {
				break
			}
			some := slices.Clone(bytes)
			some[next(len(some))] = " 0123456789\npicalodstore"[next(23)]
			events, _, code := script.Parse(string(some))
			if code != api.OK {
				continue
			}
			if again, code := script.Print(events); code != api.OK || again != string(some) && again != string(some)+"\n" {
				t.Fatalf("Parse accepted %q, Print returned %q", some, again)
			}
		}
	}
}
