package console_test

import (
	"slices"
	"strconv"
	"strings"
	"testing"

	"seisin/api"
	"seisin/audit"
	"seisin/console"
	"seisin/kinds"
	"seisin/part"
	"seisin/script"
	"seisin/world"
)

// prints runs lines, and compares what they print; | stands for a byte 10.
func prints(t *testing.T, text, want string) {
	t.Helper()
	got, code := console.Run(strings.ReplaceAll(text, "|", "\n"))
	if got = strings.ReplaceAll(got, "\n", "|"); got != want || code != api.OK {
		t.Errorf("Run(%q) = %q, %d; want %q", text, got, code, want)
	}
}

func TestP36_1Example(t *testing.T) {
	prints(t, "boot 16 1 1 0|pick 0 1|call 0 18 0 0 0 0 0 0|threads|check", "ok|0|0 1:0:0:0:0:0:0:0:0:0|1:1|0|")
}

func TestP36_1Lines(t *testing.T) {
	prints(t, "", "")
	prints(t, "|", "")
	prints(t, "||   ||#|# x|  # boot 16 1 1 0||#boot 16 1 1 0", "")
	prints(t, "x", "error|")
	prints(t, "x|", "error|")
	prints(t, "x||y", "error|error|")
	prints(t, "  boot   16  1 1     0  |   pick 0   1  |check ", "ok|0|0|")
	prints(t, "boot 16 1 1 0|check #|check#|check x|\tcheck|check\t|check\r|ch eck|Check", "ok|error|error|error|error|error|error|error|error|")
	prints(t, "boot 16 1 1 0| |\t| #x|\t#x|é|\xff|\x00", "ok|error|error|error|error|error|")
}

func TestP36_1NoWorld(t *testing.T) {
	for _, line := range []string{"pick 0 1", "call 0 18 0 0 0 0 0 0", "load 0 8", "store 0 8 1", "evict 0 0 0", "prefetch 0 0", "caps", "threads", "check", "apart 1 8", "boot", "boot 16 1 1", "boot 10 1 1 0"} {
		prints(t, line, "error|")
		prints(t, "boot 10 1 1 0|"+line, "error|error|")
	}
}

func TestP36_1Boot(t *testing.T) {
	prints(t, "boot 33 3 3 1|boot 64 1 1 0|boot 11 1 1 0", "ok|ok|ok|")
	for _, line := range []string{"boot", "boot 16", "boot 16 1 1", "boot 16 1 1 0 0", "boot 16 1 1 2", "boot 16 1 1 00", "boot 016 1 1 0", "boot +16 1 1 0", "boot -16 1 1 0", "boot 16 1 1 -0", "boot 1000000 1 1 0", "boot 16 1 1 1000000", "boot 99999999999999999999 1 1 0", "boot 16 x 1 0", "boot 16 1 1 yes", "boot 16 4 1 0", "boot 10 1 1 0", "boot 65 1 1 0", "boot 999999 1 1 0", "boot 40 1 4 0", "boot 16 0 1 0", "boot 16 1 0 0", "Boot 16 1 1 0", "boot16 1 1 0"} {
		// The world that there is stays.
		prints(t, "boot 22 1 2 0|"+line+"|threads", "ok|error|1:1 8:1|")
		prints(t, line+"|threads", "error|error|")
	}
	prints(t, "boot 22 1 2 0|pick 0 1|threads|boot 16 1 1 1|load 0 0|threads", "ok|0|1:1 8:1|ok|19|1:1|")
}

func TestP36_1Events(t *testing.T) {
	prints(t, "boot 40 2 2 1|pick 0 1|pick 1 8|load 1 128|call 0 16 7 4096 0 0 0 0|call 0 17 0 0 0 0 0 0|pick 1 8|load 1 128",
		"ok|0|0|0 8:6:0:0:0:0:0:0:0:4|0 1:0:0:4:128:0:0:102:0:0|0 1:0:0:0:0:0:0:0:0:0|0|0 8:6:0:0:0:0:0:0:0:4|")
	prints(t, "boot 40 2 2 1|pick 0 1|pick 1 8|call 1 16 7 9 0 0 0 0|call 0 2 4 8 7 0 0 0|call 0 14 7 8 5 6 7 18446744073709551615|call 0 14 7 8 1 2 3 4|pick 1 0|call 1 16 7 10 0 0 0 0",
		"ok|0|0|0|0 1:0:0:0:0:0:0:0:0:0|0 8:0:0:5:6:7:18446744073709551615:0:1:0 1:0:0:0:0:0:0:0:0:0|0|0|0 8:0:0:1:2:3:4:0:1:0 1:0:0:0:0:0:0:0:0:0|")
	prints(t, "boot 40 2 2 1|pick 2 1|pick 0 9|load 0 0|call 0 18 0 0 0 0 0 0|evict 0 4 0|evict 0 3 1|prefetch 0 512|prefetch 0 0|pick 0 1|call 0 99 0 0 0 0 0 0|load 0 99999999", "ok|3|2|19|19|3|0|3|0|0|0 1:2:0:0:0:0:0:0:0:0|0 1:6:0:0:0:0:0:0:0:1|")
	for _, line := range []string{"pick 0", "pick 0 1 2", "pick 0 01", "pick 0 1000000", "pick 0 -1", "load 0 18446744073709551616", "call 0 18 0 0 0 0 0", "call 0 18 0 0 0 0 0 0 0", "store 0 8", "evict 0 0", "prefetch 0", "Pick 0 1", "pick\t0 1", "pick 0 1 #"} {
		prints(t, "boot 40 2 2 1|"+line+"|threads", "ok|error|1:1 8:1|")
	}
}

func TestP36_1StoredAndLoaded(t *testing.T) {
	prints(t, "boot 40 2 2 1|pick 0 1|call 0 1 3 4 0 1 8 2|call 0 1 3 3 0 1 10 1|call 0 8 8 4 0 0 0 0|call 0 8 9 4 0 0 0 0|call 0 10 10 4 0 3 0 0|store 0 0 18446744073709551615|load 0 0|call 0 7 3 64 0 0 0 0|prefetch 0 0|load 0 0|threads",
		"ok|0|"+strings.Repeat("0 1:0:0:0:0:0:0:0:0:0|", 6)+"0 1:0:18446744073709551615:0:0:0:0:0:0:0|0 1:0:0:0:0:0:0:0:0:0|0|0 1:6:0:0:0:0:0:0:0:4|1:0 8:1|")
}

func TestP36_1Questions(t *testing.T) {
	prints(t, "boot 33 1 1 1|caps|check|threads", "ok|1.0=node 1.1=root 2.1=node 2.2=thread 2.3=untyped 2.4=root 2.5=control 2.6=pool 2.7=endpoint|0|1:1|")
	prints(t, "boot 33 1 2 0|apart 1 8|apart 8 1|apart 1 1|apart 1 9|apart 1 999999|apart 0 0", "ok|yes|yes|no|no|no|no|")
	prints(t, "boot 33 1 2 1|apart 1 8", "ok|no|")
	for _, line := range []string{"apart", "apart 1", "apart 1 8 8", "apart 1 x", "apart 01 8", "apart 1 1000000", "apart -1 8", "caps 1", "threads 1", "check 1", "thread", "cap"} {
		prints(t, "boot 33 1 2 0|"+line, "ok|error|")
	}
}

// TestNothingLeft deletes the only thread, and everything with it.
func TestP36_1NothingLeft(t *testing.T) {
	text := "boot 16 1 1 0|pick 0 1"
	want := "ok|0|"
	// The node's capabilities, but for the thread's own, then its nodes.
	for _, addr := range []int{3, 4, 5, 6, 1} {
		text += "|call 0 6 " + strconv.Itoa(addr) + " 0 0 0 0 0"
		want += "0 1:0:0:0:0:0:0:0:0:0|"
	}
	text += "|caps|call 0 6 2 0 0 0 0 0|caps|threads|check|load 0 0"
	want += "1.0=node 1.1=root 2.2=thread|0 1:0:0:0:0:0:0:0:0:0|-||0|19|"
	prints(t, text, want)
}

func TestP36_1Full(t *testing.T) {
	if out, code := console.Run(strings.Repeat("x", api.MaxScript+1)); out != "" || code != api.ErrFull {
		t.Errorf("Run of too much: %q, %d", out, code)
	}
	if out, code := console.Run("boot 16 1 1 0\n" + strings.Repeat("\n", api.MaxScript)); out != "" || code != api.ErrFull {
		t.Errorf("Run of too much: %q, %d", out, code)
	}
	text := strings.Repeat(" ", api.MaxScript-13) + "boot 16 1 1 0"
	if out, code := console.Run(text); out != "ok\n" || code != api.OK {
		t.Errorf("Run of as much as may be: %q, %d", out, code)
	}
	out, code := console.Run("boot 64 3 3 1\n" + strings.Repeat("check\n", 10000))
	if code != api.OK || out != "ok\n"+strings.Repeat("0\n", 10000) {
		t.Errorf("many lines: %d bytes, %d", len(out), code)
	}
}

// TestAgainstAWorld plays scripts on a console and on a world.
func TestP36_1AgainstAWorld(t *testing.T) {
	seed := uint64(9)
	next := func(n int) int {
		seed = seed*6364136223846793005 + 1442695040888963407
		return int(seed >> 33 % uint64(n))
	}
	for n := range 20 {
		c := api.Config{Frames: 33 + n, Cores: 1 + n%3, Threads: 1 + n%3, Shared: n%2 == 0}
		w, code := world.New(c)
		if code != api.OK {
			t.Fatal(code)
		}
		shared := "0"
		if c.Shared {
			shared = "1"
		}
		text := "boot " + strconv.Itoa(c.Frames) + " " + strconv.Itoa(c.Cores) + " " + strconv.Itoa(c.Threads) + " " + shared + "\n"
		want := "ok\n"
		for range 120 {
			e := api.Event{Kind: 1 + next(6), Core: next(c.Cores), Thread: []int{0, 1, 8, 15}[next(4)], Va: uint64(next(9) * 8), Value: uint64(next(5)), Set: next(5), Way: next(2), Page: next(3)}
			e.Call = api.Call{Op: uint64(next(24)), Args: [6]uint64{uint64(next(12)), uint64(next(12)), uint64(next(8)), uint64(next(2)), uint64(8 * next(2)), uint64(next(2))}}
			line, code := script.Line(e)
			if code != api.OK {
				t.Fatal(code)
			}
			text += line + "\n"
			s := w.Do(e)
			want += strconv.Itoa(int(s.Code))
			for _, x := range s.Notes {
				want += " " + strconv.Itoa(x.Thread) + ":" + strconv.Itoa(int(x.Code))
				got := uint64(0)
				if x.Got {
					got = 1
				}
				for _, v := range []uint64{x.Value, x.Msg[0], x.Msg[1], x.Msg[2], x.Msg[3], x.Badge, got, uint64(x.Fault.Kind)} {
					want += ":" + strconv.FormatUint(v, 10)
				}
			}
			v := w.View()
			text += "caps\nthreads\ncheck\napart 1 8\n"
			var list, states []string
			for _, h := range v.Caps {
				list = append(list, strconv.Itoa(h.Slot.Node)+"."+strconv.Itoa(h.Slot.Index)+"="+kinds.Name(h.Cap.Kind))
			}
			if len(list) == 0 {
				list = []string{"-"}
			}
			for _, x := range v.Threads {
				states = append(states, strconv.Itoa(x.ID)+":"+strconv.Itoa(x.State))
			}
			apart := "no"
			if part.Apart(v, []int{1}, []int{8}) {
				apart = "yes"
			}
			want += "\n" + strings.Join(list, " ") + "\n" + strings.Join(states, " ") + "\n" + strconv.Itoa(len(audit.Check(v))) + "\n" + apart + "\n"
		}
		out, code := console.Run(text)
		if out != want || code != api.OK {
			t.Fatalf("script %d: the console prints something else than the world tells", n)
		}
		// P36.2
		all := strings.SplitAfter(text, "\n")
		for range 20 {
			some, code := console.Run(strings.Join(all[:next(len(all))], ""))
			if code != api.OK || !strings.HasPrefix(out, some) {
				t.Fatalf("script %d: the first lines print something else", n)
			}
		}
	}
}

func TestP36_2Prefix(t *testing.T) {
	all := []string{"boot 22 1 2 0\n", "check\n", "\n", "# x\n", "x\n", "boot 1 1 1 1\n", "threads\n", "pick 0 1\n", "boot 16 1 1 1\n", "caps\n"}
	whole, _ := console.Run(strings.Join(all, ""))
	for i := range all {
		out, code := console.Run(strings.Join(all[:i], ""))
		if code != api.OK || !strings.HasPrefix(whole, out) {
			t.Errorf("the first %d lines print %q", i, out)
		}
	}
	if lines := slices.Collect(strings.Lines(whole)); len(lines) != 8 {
		t.Errorf("%d lines were printed: %q", len(lines), whole)
	}
}
