package tale

import (
	"strings"
	"testing"

	"varve/api"
)

// DOC.md's ten examples of the whole, as scripts, as far as these tell them.

func TestExamples(t *testing.T) { // P28.1, P28.2, P28.3: the chapter's; DOC.md's tenth
	wantRun(t, "ask 3 begin\nround 1\n", "0 3 begin 1 2 0 1 0\n")
	wantText(t, "ask 3 write 0 2 1 6869\n", asked(3, api.Call{Kind: api.CWrite, Page: 2, Off: 1, S: "hi"}))
	for _, line := range []string{"step 01", "step  1", "step 1 ", "crash "} {
		wantNoLine(t, line)
	}
}

func TestExamplesOneToThree(t *testing.T) { // P1, P2
	wantRun(t, lines(
		"ask 0 begin", "round 1", "ask 0 read 0 2", "round 1",
		"ask 1 begin", "ask 2 begin", "ask 3 begin", "round 1",
		"ask 0 write 0 2 0 6869", "round 1", "ask 0 commit 0", "round 20",
		"ask 1 read 0 2", "round 20", "ask 4 begin", "round 1", "ask 4 read 0 2", "round 20",
		"ask 2 write 0 3 0 61", "ask 3 write 0 3 0 62", "round 20", "ask 2 commit 0", "ask 3 commit 0", "round 20",
	), lines(
		"0 0 begin 1 2 0 1 0", "0 0 read 3 4 0 0 0",
		"0 1 begin 5 8 0 2 0", "0 2 begin 6 8 0 3 0", "0 3 begin 7 8 0 4 0",
		"0 0 write 9 10 0 0 0", "0 0 commit 11 12 0 0 1",
		"0 1 read 13 14 0 0 0", "0 4 begin 15 16 0 5 1", "0 4 read 17 18 0 0 1 6869",
		"0 2 write 19 21 0 0 0", "0 3 write 20 21 0 0 0", "0 2 commit 22 24 0 0 2", "0 3 commit 23 24 7 0 0",
	))
}

// committed is a script in which "hi" is committed to the page 2, in seven events.
const committed = "ask 0 begin\nround 1\nask 0 write 0 2 0 6869\nround 1\nask 0 commit 0\nround 9\nstep 0\n"

const committedTold = "0 0 begin 1 2 0 1 0\n0 0 write 3 4 0 0 0\n0 0 commit 5 6 0 0 1\n"

func TestExampleFour(t *testing.T) { // P3
	wantRun(t, committed+lines("crash -", "open 0", "ask 5 begin", "round 1", "ask 5 read 0 2", "round 1"),
		committedTold+lines("1 5 begin 10 11 0 1 1", "1 5 read 12 13 0 0 1 6869"))
}

func TestExampleFive(t *testing.T) { // P3
	for keep, there := range map[string]bool{"-": false, "1100": false, "0110": false, "1001": false, "1110": false, "1111": true, "11111": true} {
		want := "6869"
		if there {
			want = "686f"
		}
		got, _, e := Run(small(), 5, committed+lines(
			"ask 0 begin", "round 1", "ask 0 write 0 2 1 6f", "round 1", "ask 0 commit 0", "round 4", "fuse 2", "round 1", "round 1",
			"crash "+keep, "open 0", "ask 5 begin", "round 1", "ask 5 read 0 2", "round 9"))
		told := strings.Split(got, "\n")
		if e != api.OK || len(told) != 9 || told[5] != "0 0 commit 12 open" || !strings.HasSuffix(told[7], want) {
			t.Errorf("crash %s: %q, %d", keep, told, e)
		}
	}
}

func TestExampleSeven(t *testing.T) { // P3
	wantRun(t, committed+lines("crash -", "fuse 3", "open 0", "open 0", "crash 10", "open 0", "ask 5 begin", "round 1", "ask 5 read 0 2", "round 9"),
		committedTold+lines("1 5 begin 14 15 0 1 1", "1 5 read 16 17 0 0 1 6869"))
}

func TestExampleNine(t *testing.T) { // P5
	var script strings.Builder
	do := func(who, call string) { script.WriteString("ask " + who + " " + call + "\nround 40\n") }
	fill := func(letter string) {
		do("0", "begin")
		do("0", "write 0 1 0 "+strings.Repeat(letter, 64))
		do("0", "commit 0")
	}
	do("1", "begin")
	for _, letter := range []string{"61", "62", "63", "64", "65"} { // the fifth one finds no room
		fill(letter)
	}
	do("1", "abort 0")
	do("2", "checkpoint")
	do("2", "vacuum")
	do("2", "checkpoint")
	fill("66")
	got, _, e := Run(api.Config{Pages: 2, Undo: 2, Log: 200, MaxTs: 99}, 5, script.String())
	var errs []string
	for told := range strings.Lines(got) {
		words := strings.Fields(told)
		if words[2] != "write" && words[2] != "begin" {
			errs = append(errs, words[2]+" "+words[5])
		}
	}
	want := "commit 0, commit 0, commit 0, commit 0, commit 5, abort 0, checkpoint 0, vacuum 0, checkpoint 0, commit 0"
	if strings.Join(errs, ", ") != want || e != api.OK {
		t.Errorf("%s, want %s", strings.Join(errs, ", "), want)
	}
}
