package tale

import (
	"math"
	"strconv"
	"strings"
	"testing"

	"varve/api"
)

func TestLines(t *testing.T) { // P28.1, P28.2, P28.4
	wantText(t, "")
	for kind, name := range []string{"begin", "", "", "", "", "vacuum", "checkpoint", "close"} {
		if name != "" {
			wantText(t, "ask 0 "+name+"\n", asked(0, call(uint8(kind))))
			wantText(t, "ask 9 "+name+"\n", asked(9, call(uint8(kind))))
		}
	}
	const most = 1<<31 - 1
	wantText(t, "ask 3 read 0 0\n", asked(3, call(api.CRead)))
	wantText(t, "ask 3 read 2147483647 65535\n", asked(3, api.Call{Kind: api.CRead, Txn: most, Page: 65535}))
	wantText(t, "ask 3 write 0 2 1 6869\n", asked(3, api.Call{Kind: api.CWrite, Page: 2, Off: 1, S: "hi"}))
	wantText(t, "ask 3 write 0 0 0 -\n", asked(3, call(api.CWrite)))
	wantText(t, "ask 3 write 2147483647 65535 2147483647 00ff7f80\n", asked(3, api.Call{Kind: api.CWrite, Txn: most, Page: 65535, Off: most, S: "\x00\xff\x7f\x80"}))
	wantText(t, "ask 3 write 10 0 0 "+strings.Repeat("a5", 64)+"\n", asked(3, api.Call{Kind: api.CWrite, Txn: 10, S: strings.Repeat("\xa5", 64)}))
	wantText(t, "ask 1 commit 0\n", asked(1, call(api.CCommit)))
	wantText(t, "ask 1 commit 2147483647\n", asked(1, api.Call{Kind: api.CCommit, Txn: most}))
	wantText(t, "ask 1 abort 12\n", asked(1, api.Call{Kind: api.CAbort, Txn: 12}))
	for name, kind := range map[string]uint8{"step": api.EStep, "round": api.ERound, "fuse": api.EFuse, "fail": api.EFail, "open": api.EOpen} {
		for _, a := range []int{0, 1, 9, 10, 64, 65, 100, 2000000000, most} {
			wantText(t, name+" "+strconv.Itoa(a)+"\n", with(kind, a))
		}
	}
	wantText(t, "crash -\n", crash())
	wantText(t, "crash 0\n", crash(false))
	wantText(t, "crash 0110\n", crash(false, true, true, false))
	wantText(t, "crash "+strings.Repeat("1", 2000)+"\n", crash(slicesOf(true, 2000)...))
	wantText(t, lines("ask 3 begin", "round 1", "crash -", "open 0"), asked(3, call(api.CBegin)), with(api.ERound, 1), crash(), with(api.EOpen, 0))
	if got, e := Print([]api.Event{{Kind: api.ECrash, Keep: []bool{}}}); got != "crash -\n" || e != api.OK { // nil and empty are one
		t.Errorf("Print = %q, %d", got, e)
	}
}

func slicesOf(is bool, n int) []bool {
	list := make([]bool, n)
	for i := range list {
		list[i] = is
	}
	return list
}

func TestEveryByte(t *testing.T) { // P28.1, P28.2
	const letters = "0123456789abcdef"
	for b := range 256 {
		wantText(t, "ask 0 write 0 0 0 "+letters[b/16:b/16+1]+letters[b%16:b%16+1]+"\n", asked(0, api.Call{Kind: api.CWrite, S: string([]byte{byte(b)})}))
	}
}

func TestPrintOfWhatHasNoLine(t *testing.T) { // P28.1
	var list []api.Event
	add := func(e api.Event) { list = append(list, e) }
	for kind := 7; kind < 256; kind++ {
		add(with(uint8(kind), 0))
	}
	for kind := 8; kind < 256; kind++ {
		add(asked(3, call(uint8(kind))))
	}
	for _, who := range []int{math.MinInt, -1, 10, 11, 1 << 32, math.MaxInt} {
		add(asked(who, call(api.CBegin)))
		add(asked(who, call(api.CRead)))
	}
	beyond := []int{math.MinInt, -1 << 31, -1, 1 << 31, 1 << 32, 1<<32 + 5, 9999999999, 10000000000, math.MaxInt}
	for _, kind := range []uint8{api.EStep, api.ERound, api.EFuse, api.EFail, api.EOpen} {
		for _, a := range beyond {
			add(with(kind, a))
		}
		add(api.Event{Kind: kind, A: 1, B: 1})
		add(api.Event{Kind: kind, A: 1, B: -1})
		add(api.Event{Kind: kind, A: 1, Keep: []bool{false}})
		for _, c := range oneField() {
			add(api.Event{Kind: kind, A: 1, Call: c})
		}
	}
	for _, e := range []api.Event{crash(), crash(true)} {
		for _, a := range []int{1, -1} {
			add(api.Event{Kind: e.Kind, Keep: e.Keep, A: a})
			add(api.Event{Kind: e.Kind, Keep: e.Keep, B: a})
		}
		for _, c := range oneField() {
			add(api.Event{Kind: e.Kind, Keep: e.Keep, Call: c})
		}
	}
	add(crash(keptOf(2001)...))
	add(crash(keptOf(100000)...))
	for kind, told := range []string{"", "TP", "TPOS", "T", "T", "", "", ""} {
		add(api.Event{Kind: api.EAsk, A: 3, B: 1, Call: call(uint8(kind))})
		add(api.Event{Kind: api.EAsk, A: 3, Keep: []bool{true}, Call: call(uint8(kind))})
		for name, c := range oneField() {
			c.Kind = uint8(kind)
			if name != "K" && !strings.Contains(told, name) {
				add(asked(3, c))
			}
		}
		if strings.Contains(told, "T") {
			for _, txn := range []uint64{1 << 31, 1 << 32, 9999999999, 1 << 63, 1<<64 - 1} {
				add(asked(3, api.Call{Kind: uint8(kind), Txn: txn}))
			}
		}
	}
	for _, off := range beyond {
		add(asked(3, api.Call{Kind: api.CWrite, Off: off}))
	}
	for _, n := range []int{65, 66, 128, 100000} {
		add(asked(3, api.Call{Kind: api.CWrite, S: strings.Repeat("x", n)}))
	}
	for _, e := range list {
		wantUnprinted(t, "alone", []api.Event{e}, api.ErrArg)
		wantUnprinted(t, "behind others", []api.Event{with(api.EStep, 0), crash(), e, with(api.EStep, 0)}, api.ErrArg)
	}
}

// oneField are calls that have something in one field, by its first letter.
func oneField() map[string]api.Call {
	return map[string]api.Call{"K": {Kind: 1}, "T": {Txn: 1}, "P": {Page: 1}, "O": {Off: 1}, "S": {S: "x"}}
}

func TestParseOfWhatIsNoLine(t *testing.T) { // P28.2
	for _, line := range []string{
		"", " ", "  ", "\t", "-", "step", "step ", "step  ", " step 1", "step 1 ", "step  1", "step 1 1", "step\t1", "step 1\r", "step 1\x00", "Step 1", "STEP 1", "steps 1", "ste 1", "step1",
		"step 01", "step 00", "step -1", "step +1", "step -", "step -0", "step 1.0", "step 1e3", "step 0x1", "step 1_0", "step a", "step 1a", "step ٣", "step １", "step \xff", "step 1\xff",
		"step 2147483648", "step 4294967296", "step 9999999999", "step 10000000000", "step 18446744073709551616", "step 18446744073709551617", "step 340282366920938463463374607431768211457", "step 02147483647",
		"round", "round -1", "round 01", "fuse", "fuse 2147483648", "fail", "fail  3", "open", "open -1", "open 1 2", "step begin",
		"crash", "crash ", "crash  ", "crash  1", "crash 1 ", "crash 2", "crash 012", "crash 0 1", "crash --", "crash -1", "crash 1-", "crash ١", "crash 1\xff", "crash " + strings.Repeat("1", 2001), "crash " + strings.Repeat("0", 5000),
		"ask", "ask ", "ask 3", "ask 3 ", "ask begin", "ask  begin", "ask 10 begin", "ask 03 begin", "ask -1 begin", "ask 3  begin", "ask 3 begin ", "ask 3 begin 0", "ask 3 Begin", "ask 3 call", "ask 3 -", "ask 3 begin begin", "ask - begin", "ask 3begin",
		"ask 3 read", "ask 3 read 0", "ask 3 read 0 ", "ask 3 read 0 65536", "ask 3 read 0 65537", "ask 3 read 0 131072", "ask 3 read 2147483648 0", "ask 3 read 0 0 0", "ask 3 read 00 0", "ask 3 read 0 00", "ask 3 read - 0",
		"ask 3 write", "ask 3 write 0 2 1", "ask 3 write 0 2 1 ", "ask 3 write 0 2 1 6", "ask 3 write 0 2 1 686", "ask 3 write 0 2 1 6A", "ask 3 write 0 2 1 6g", "ask 3 write 0 2 1 AA", "ask 3 write 0 2 1 --", "ask 3 write 0 2 1 -6", "ask 3 write 0 2 1 6-",
		"ask 3 write 0 2 1 68 69", "ask 3 write 0 2 1 - -", "ask 3 write 0 2 1 \xff\xff", "ask 3 write 0 2 1 éé", "ask 3 write 0 2 1 " + strings.Repeat("aa", 65), "ask 3 write 0 2 1 " + strings.Repeat("a", 129), "ask 3 write 0 2 - 68", "ask 3 write 0 65536 1 68", "ask 3 write 0 2 2147483648 68", "ask 3 write 2147483648 2 1 68", "ask 3 write 0 2 01 68", "ask 3 write 0 2 -1 68",
		"ask 3 commit", "ask 3 commit ", "ask 3 commit -", "ask 3 commit 01", "ask 3 commit 0 0", "ask 3 commit 2147483648", "ask 3 abort", "ask 3 abort 0 1", "ask 3 abort x",
		"ask 3 vacuum 0", "ask 3 vacuum ", "ask 3 checkpoint 0", "ask 3 close 0", "ask 3 closed", "begin", "ask 3 begin\x0b", strings.Repeat(" ", 5000), "step 1 " + strings.Repeat(" ", 5000), "\xef\xbb\xbfstep 1",
	} {
		wantNoLine(t, line)
	}
}

func TestParseOfWhatIsNotEnded(t *testing.T) { // P28.2
	for _, text := range []string{"x", " ", "step 1", "ask 3 begin", "crash -", "step 1\r"} {
		wantUnread(t, "alone", text, 1, api.ErrForm)
		wantUnread(t, "behind others", "open 0\nopen 0\n"+text, 3, api.ErrForm)
	}
	wantUnread(t, "an empty line", "\n", 1, api.ErrForm)
	wantUnread(t, "behind one", "step 1\n\n", 2, api.ErrForm)
	wantUnread(t, "between", "step 1\n\nstep 1\n", 2, api.ErrForm)
}

func TestTheFirstWrongLine(t *testing.T) { // P28.2
	wantUnread(t, "two", lines("step 0", "step x", "step 0", "step y"), 2, api.ErrForm)
	wantUnread(t, "two, one not ended", lines("step 0", "step x")+"step 0", 2, api.ErrForm)
	many := strings.Repeat("step 0\n", 2000)
	wantUnread(t, "one, and one beyond", "x\n"+many, 1, api.ErrForm)
	wantUnread(t, "one, and one beyond", strings.Repeat("step 0\n", 1999)+"x\nstep 0\n", 2000, api.ErrForm)
	wantUnread(t, "one beyond, and wrong", many+"x\n", 2001, api.ErrMany)
	wantUnread(t, "one beyond, and not ended", many+"step 0", 2001, api.ErrMany)
	wantUnread(t, "one beyond, and empty", many+"\n", 2001, api.ErrMany)
	wantUnread(t, "many beyond", many+many, 2001, api.ErrMany)
	wantUnread(t, "the last one isn't ended", many[:len(many)-1], 2000, api.ErrForm)
}

func TestHowManyEvents(t *testing.T) { // P28.1, P28.2
	list := make([]api.Event, 2001)
	for i := range list {
		list[i] = with(api.EStep, i)
	}
	text, e := Print(list[:2000])
	if e != api.OK || strings.Count(text, "\n") != 2000 {
		t.Fatalf("Print of 2000 = %d", e)
	}
	wantText(t, text, list[:2000]...)
	wantUnprinted(t, "2001", list, api.ErrMany)
	list[3].B = 1
	wantUnprinted(t, "2001, of which one has no line", list, api.ErrMany)
	wantUnprinted(t, "2000, of which one has no line", list[:2000], api.ErrArg)
	wantUnread(t, "2001", text+"step 1\n", 2001, api.ErrMany)
}

// long are events whose text has so many bytes, some 2^17, and that text.
func long(bytes int) ([]api.Event, string) {
	var list []api.Event
	var text strings.Builder
	for bytes > 2007 {
		n := min(2000, bytes-7-8) // so that there is room for one behind it
		list = append(list, crash(slicesOf(false, n)...))
		text.WriteString("crash " + strings.Repeat("0", n) + "\n")
		bytes -= n + 7
	}
	list = append(list, crash(slicesOf(true, bytes-7)...))
	text.WriteString("crash " + strings.Repeat("1", bytes-7) + "\n")
	return list, text.String()
}

func TestHowManyBytes(t *testing.T) { // P28.1, P28.2
	list, text := long(1 << 17)
	if len(text) != 1<<17 {
		t.Fatalf("%d bytes", len(text))
	}
	wantText(t, text, list...)
	wantUnprinted(t, "one more behind", append(list, with(api.EStep, 1)), api.ErrMany)
	wantUnprinted(t, "no line behind it", append(list, with(7, 1)), api.ErrArg)
	wantUnprinted(t, "no line at the end", append(list, with(api.EStep, 1), with(7, 1)), api.ErrMany)
	wantUnread(t, "one line more", text+"step 1\n", 0, api.ErrMany)
	list, text = long(1<<17 + 1)
	wantUnprinted(t, "one byte more", list, api.ErrMany)
	wantUnread(t, "one byte more", text, 0, api.ErrMany)
	wantUnread(t, "one byte more, and wrong", "x\n"+text, 0, api.ErrMany)
	wantUnread(t, "wrong, and as many as may be", strings.Repeat("x", 1<<17), 1, api.ErrForm)
	wantUnread(t, "blanks", strings.Repeat(" ", 1<<17), 1, api.ErrForm)
	wantUnread(t, "empty lines", strings.Repeat("\n", 1<<17), 1, api.ErrForm)
	wantUnread(t, "empty lines", strings.Repeat("\n", 1<<17+1), 0, api.ErrMany)
	list, text = long(1<<17 - 1)
	wantText(t, text, list...)
}

func TestWhatIsHandedInStays(t *testing.T) { // rule 4
	keep := make([]bool, 3, 9)
	list := make([]api.Event, 1, 4)
	list[0] = crash(keep...)
	if _, e := Print(list); e != api.OK {
		t.Fatal(e)
	}
	for _, is := range keep[:9] {
		if is {
			t.Error("it has changed")
		}
	}
	if !sameEvents(list[:4], []api.Event{crash(false, false, false), {}, {}, {}}) {
		t.Errorf("it is %+v", list[:4])
	}
	a, _, _ := Parse("crash 01\ncrash 01\n")
	b, _, _ := Parse("crash 01\ncrash 01\n")
	a[0].Keep[0] = true
	_ = append(a[0].Keep[:1], true)
	if a[1].Keep[0] || b[0].Keep[0] {
		t.Error("two answers share what they keep")
	}
}
