package tale

import (
	"math"
	"strings"
	"testing"

	"varve/api"
	"varve/world"
)

func wantTell(t *testing.T, told api.Told, want string) {
	t.Helper()
	if got := Tell(told); got != want {
		t.Errorf("Tell(%+v) = %q, want %q", told, got, want)
	}
}

func TestTell(t *testing.T) { // P28.3
	for kind, name := range []string{"begin", "read", "write", "commit", "abort", "vacuum", "checkpoint", "close"} {
		told := api.Told{Life: 2, Who: 3, Call: call(uint8(kind)), From: 4, To: 5, Reply: api.Reply{Err: 6, Txn: 7, Ts: 8}}
		wantTell(t, told, "2 3 "+name+" 4 5 6 7 8")
		told.Open = true // then nothing else is told, whatever there is
		wantTell(t, told, "2 3 "+name+" 4 open")
	}
	for kind := 8; kind < 256; kind++ {
		wantTell(t, api.Told{Call: call(uint8(kind))}, "0 0 call 0 0 0 0 0")
		wantTell(t, api.Told{Call: call(uint8(kind)), Open: true}, "0 0 call 0 open")
	}
	wantTell(t, api.Told{}, "0 0 begin 0 0 0 0 0")
	wantTell(t, api.Told{Call: api.Call{Kind: api.CWrite, Txn: 9, Page: 9, Off: 9, S: "x"}}, "0 0 write 0 0 0 0 0") // of the call its kind alone
}

func TestTellBodies(t *testing.T) { // P28.3
	told := func(at int, s string) api.Told {
		x := api.Told{Call: call(api.CRead), Reply: api.Reply{Ts: 1}}
		copy(x.Reply.Body[at:], s)
		return x
	}
	wantTell(t, told(0, ""), "0 0 read 0 0 0 0 1")
	wantTell(t, told(0, "hi"), "0 0 read 0 0 0 0 1 6869")
	wantTell(t, told(2, "\xff\x0a"), "0 0 read 0 0 0 0 1 0000ff0a")
	wantTell(t, told(0, "a\x00b\x00"), "0 0 read 0 0 0 0 1 610062")
	wantTell(t, told(63, "\x01"), "0 0 read 0 0 0 0 1 "+strings.Repeat("00", 63)+"01")
	wantTell(t, told(62, "\x01"), "0 0 read 0 0 0 0 1 "+strings.Repeat("00", 62)+"01")
	wantTell(t, told(0, "\x80"), "0 0 read 0 0 0 0 1 80")
	wantTell(t, told(0, strings.Repeat("-", 64)), "0 0 read 0 0 0 0 1 "+strings.Repeat("2d", 64))
	open := told(0, "hi")
	open.Open = true
	wantTell(t, open, "0 0 read 0 open")
}

func TestTellNumbers(t *testing.T) { // P28.3
	const all, half = 1<<32 - 1, 1 << 31
	wantTell(t, api.Told{Life: -1, Who: -2, From: -3, To: -4, Reply: api.Reply{Err: -5, Txn: 1<<64 - 1, Ts: all}},
		"4294967295 4294967294 begin 4294967293 4294967292 4294967291 18446744073709551615 4294967295")
	wantTell(t, api.Told{Life: all + 1, Who: all + 2, From: all, To: half, Reply: api.Reply{Err: 1<<40 + 7, Txn: 1 << 32, Ts: half}},
		"0 1 begin 4294967295 2147483648 7 4294967296 2147483648")
	wantTell(t, api.Told{Life: math.MinInt, Who: math.MaxInt, From: math.MinInt + 1, To: math.MaxInt - 1, Reply: api.Reply{Err: math.MinInt}},
		"0 4294967295 begin 1 4294967294 0 0 0")
	wantTell(t, api.Told{Who: -half, Open: true, From: -half - 1}, "0 2147483648 begin 2147483647 open")
}

func wantRun(t *testing.T, text, want string) {
	t.Helper()
	if got, line, e := Run(small(), 5, text); got != want || line != 0 || e != api.OK {
		t.Errorf("Run(%q) = %q, %d, %d, want %q", text, got, line, e, want)
	}
}

func TestRun(t *testing.T) { // P28.3
	wantRun(t, "", "")
	wantRun(t, "step 0\nround 64\nopen 3\n", "")
	wantRun(t, "ask 3 begin\n", "0 3 begin 1 open\n")
	wantRun(t, lines("ask 3 begin", "round 1"), "0 3 begin 1 2 0 1 0\n")
	wantRun(t, lines("ask 3 begin", "ask 3 begin", "ask 4 read 0 9", "ask 5 commit 0", "step 0"), lines("0 3 begin 1 5 0 1 0", "0 3 begin 2 2 11 0 0", "0 4 read 3 3 1 0 0", "0 5 commit 4 4 9 0 0"))
}

func TestRunOfNoWorld(t *testing.T) { // P28.3
	for _, text := range []string{"", "step 0\n", "ask 3 begin\n"} {
		for _, c := range []api.Config{{}, {Pages: 17, Undo: 2, Log: 64}, {Pages: 2, Undo: 2, Log: 63}} {
			if got, line, e := Run(c, 5, text); got != "" || line != 0 || e != api.ErrArg {
				t.Errorf("Run(%+v, 5, %q) = %q, %d, %d", c, text, got, line, e)
			}
		}
		for _, frames := range []int{math.MinInt, 3, 33} {
			if got, line, e := Run(small(), frames, text); got != "" || line != 0 || e != api.ErrArg {
				t.Errorf("Run(.., %d, %q) = %q, %d, %d", frames, text, got, line, e)
			}
		}
	}
	for _, x := range []struct { // the text comes first
		text string
		line int
		e    api.Errno
	}{{"step 0\nx\n", 2, api.ErrForm}, {"step", 1, api.ErrForm}, {strings.Repeat("step 0\n", 2001), 2001, api.ErrMany}, {strings.Repeat("x", 1<<17+1), 0, api.ErrMany}} {
		if got, line, e := Run(api.Config{}, 3, x.text); got != "" || line != x.line || e != x.e {
			t.Errorf("Run = %q, %d, %d, want %d, %d", got, line, e, x.line, x.e)
		}
	}
}

func TestRunIsAWorld(t *testing.T) { // P28.3
	text := lines("ask 1 begin", "ask 2 begin", "round 1", "ask 1 write 0 2 0 6869", "ask 2 write 0 2 0 686f", "round 2", "ask 1 commit 0", "ask 2 commit 0",
		"fail 30", "round 12", "fuse 4", "ask 3 checkpoint", "round 9", "step 3", "crash 0110", "step 1", "open 2", "ask 1 begin", "round 1", "ask 1 read 0 2", "step 0", "ask 4 close", "round 20", "ask 1 abort 0")
	list, _, e := Parse(text)
	if e != api.OK {
		t.Fatal(e)
	}
	w := world.New(small(), 7)
	var want strings.Builder
	for _, x := range list {
		w.Do(x)
	}
	for _, x := range w.Told() {
		want.WriteString(Tell(x) + "\n")
	}
	got, line, e := Run(small(), 7, text)
	if got != want.String() || line != 0 || e != api.OK || strings.Count(got, "\n") != 11 {
		t.Errorf("Run = %q, %d, %d, want %q", got, line, e, want.String())
	}
}
