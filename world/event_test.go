package world

import (
	"math"
	"testing"

	"varve/api"
)

func TestExample(t *testing.T) { // P27.1, P27.2: the chapter's
	r := newRig(t, api.Config{Pages: 2, Undo: 2, Log: 64, MaxTs: 9}, 4)
	r.do(ask(3, begin()))
	r.wantLast("asked", api.Told{Who: 3, Call: begin(), From: 1, Open: true})
	r.do(step(0))
	r.wantLast("answered", api.Told{Who: 3, Call: begin(), From: 1, To: 2, Reply: begun(1, 0)})
	r.do(ask(3, writeOf(0, 1, 0, "hi")))
	r.wantLast("a write", api.Told{Who: 3, Call: writeOf(1, 1, 0, "hi"), From: 3, Open: true})
}

func TestEventsAreCounted(t *testing.T) { // P27.2: those that do nothing, too
	r := newRig(t, small(), 5)
	r.do(step(0), round(0), open(0), api.Event{Kind: 7}, api.Event{Kind: 255}, fuse(0), fail(0))
	r.do(ask(0, begin()))
	r.wantLast("asked", api.Told{Call: begin(), From: 8, Open: true})
	r.do(api.Event{Kind: 9}, round(5))
	r.wantLast("answered", api.Told{Call: begin(), From: 8, To: 10, Reply: begun(1, 0)})
	r.do(crash(), ask(0, begin()), step(0), open(0), ask(1, begin()))
	r.wantLast("in the next life", api.Told{Who: 1, Call: begin(), Life: 1, From: 15, Open: true})
}

func TestKindsThatAreNone(t *testing.T) { // P27.2
	r := newRig(t, small(), 5)
	r.do(ask(0, of(api.CCheckpoint)), ask(1, begin()))
	before := everything(r.w)
	for kind := 7; kind < 256; kind++ {
		r.do(api.Event{Kind: uint8(kind), A: 1, Call: of(api.CVacuum), Keep: []bool{true}})
	}
	if everything(r.w) != before {
		t.Error("an event of a kind that is none did something")
	}
}

// every is an event of each kind but ECrash, some of which would do something.
func every() []api.Event {
	list := []api.Event{ask(9, begin()), ask(10, begin()), ask(0, begin()), step(0), step(-1), round(3), fuse(0), fuse(9), fail(1), open(0), open(1)}
	for kind := 7; kind < 256; kind += 31 {
		list = append(list, api.Event{Kind: uint8(kind)})
	}
	return list
}

func TestWhileTheDiskIsDown(t *testing.T) { // P27.2
	for _, e := range every() {
		r := newRig(t, wide(), 4)
		r.want(0, begin(), begun(1, 0))
		r.do(ask(0, readOf(0, 1)), ask(1, begin()), fuse(1), step(0))
		if !r.w.Disk().Down() {
			t.Fatal("the disk isn't down")
		}
		before, s := everything(r.w), r.w.Store()
		r.do(e)
		if everything(r.w) != before || r.w.Store() != s || s == nil {
			t.Errorf("%+v did something", e)
		}
		n := r.events
		r.do(crash())
		if r.w.Store() != nil || r.w.Disk().Down() {
			t.Error("a crash did nothing")
		}
		r.do(open(0), ask(2, begin())) // and it was counted
		r.wantLast("behind it", api.Told{Who: 2, Call: begin(), Life: 1, From: n + 3, Open: true})
	}
}

func TestWhileTheDiskIsDownWithoutAStore(t *testing.T) { // P27.2
	for _, e := range every() {
		r := newRig(t, small(), 5)
		r.do(crash(), fuse(5), open(0))
		if !r.w.Disk().Down() || r.w.Store() != nil || r.w.Life() != 0 {
			t.Fatal("the disk isn't down")
		}
		before := everything(r.w)
		r.do(e)
		if everything(r.w) != before || r.w.Store() != nil {
			t.Errorf("%+v did something", e)
		}
		r.do(crash(), open(0))
		if r.w.Store() == nil || r.w.Life() != 1 {
			t.Errorf("behind %+v it can't be opened", e)
		}
	}
}

func TestWithoutAStore(t *testing.T) { // P27.2
	for _, e := range every() {
		if e.Kind == api.EOpen || e.Kind == api.EFuse || e.Kind == api.EFail {
			continue
		}
		r := newRig(t, small(), 5)
		r.do(ask(0, begin()), ask(1, begin()), crash())
		before := everything(r.w)
		r.do(e)
		if everything(r.w) != before || r.w.Store() != nil {
			t.Errorf("%+v did something", e)
		}
	}
	r := newRig(t, small(), 5)
	r.do(crash(), crash(), crash(true), fuse(3), crash(), open(0)) // a crash takes the fuse away
	if r.w.Store() == nil || r.w.Life() != 1 {
		t.Error("it can't be opened")
	}
}

func TestAskRefused(t *testing.T) { // P27.2
	r := newRig(t, small(), 5)
	r.want(1, begin(), begun(1, 0))
	r.want(2, begin(), begun(2, 0))
	r.do(ask(1, readOf(0, 2)))
	refused := func(who int, c, asked api.Call, e api.Errno) {
		t.Helper()
		n := len(r.w.Told())
		r.do(ask(who, c))
		r.wantLast("refused", api.Told{Who: who, Call: asked, From: r.events, To: r.events, Reply: fails(e)})
		if len(r.w.Told()) != n+1 {
			t.Errorf("%d were told more", len(r.w.Told())-n)
		}
	}
	same := func(who int, c api.Call, e api.Errno) {
		t.Helper()
		refused(who, c, c, e)
	}
	for _, who := range []int{math.MinInt, -1, 10, 11, 256, math.MaxInt} {
		same(who, begin(), api.ErrArg)
		same(who, readOf(0, 1), api.ErrArg)
		same(who, readOf(1, 1), api.ErrArg)
	}
	same(3, of(8), api.ErrArg)
	same(3, of(255), api.ErrArg)
	same(3, readOf(2, 4), api.ErrArg)
	same(3, writeOf(2, 4, 0, ""), api.ErrArg)
	same(3, writeOf(2, 0, -1, ""), api.ErrArg)
	same(3, writeOf(2, 0, 65, ""), api.ErrArg)
	same(3, writeOf(2, 0, 63, "ab"), api.ErrArg)
	refused(2, readOf(0, 4), readOf(2, 4), api.ErrArg)
	refused(1, begin(), api.Call{Kind: api.CBegin, Txn: 1}, api.ErrBusy) // who has a call under way
	same(3, readOf(0, 1), api.ErrTxn)                                    // who has begun nothing
	same(3, commitOf(3), api.ErrTxn)
	same(3, abortOf(1<<40), api.ErrTxn)
	same(3, commitOf(1), api.ErrBusy) // of which a call is under way
	r.do(round(1))
	if got := r.w.Told()[2]; got.Open || got.To != r.events || got.Reply != at(0) {
		t.Errorf("what was under way: %s", show(got))
	}
	r.want(4, of(api.CClose), api.Reply{})
	same(3, begin(), api.ErrHalted)
	same(-1, of(8), api.ErrHalted)
	refused(1, abortOf(0), abortOf(1), api.ErrHalted)
}

func TestTxnOfNought(t *testing.T) { // P27.2
	r := newRig(t, small(), 5)
	asked := func(name string, who int, c api.Call, want uint64) {
		t.Helper()
		r.do(ask(who, c))
		if got := r.last().Call.Txn; got != want {
			t.Errorf("%s: %d was asked of, want %d", name, got, want)
		}
		r.do(round(64))
	}
	asked("ahead of any", 3, readOf(0, 1), 0)
	r.do(ask(3, begin()))
	if r.last().Call.Txn != 0 {
		t.Error("the first one is of another")
	}
	r.do(ask(3, readOf(0, 1))) // not answered yet
	if r.last().Call.Txn != 0 || r.last().Reply.Err != api.ErrBusy {
		t.Errorf("ahead of the answer: %s", show(r.last()))
	}
	r.do(round(1))
	for _, kind := range []uint8{api.CRead, api.CWrite, api.CVacuum, api.CCheckpoint, api.CBegin} {
		asked("its own one", 3, of(kind), 1)
	}
	asked("the last one", 3, readOf(0, 1), 2)
	asked("one that isn't 0", 3, readOf(1, 1), 1)
	asked("one that there isn't", 3, readOf(77, 1), 77)
	asked("of another client", 4, readOf(0, 1), 0)
	asked("of another client", 4, readOf(2, 1), 2)
	for range 6 {
		r.call(5, begin())
	}
	asked("the eighth", 5, readOf(0, 1), 8)
	r.want(3, begin(), fails(api.ErrMany))
	asked("behind one that was refused", 3, readOf(0, 1), 2)
	r.do(ask(10, begin()), ask(-1, begin()))
	asked("of no client", 10, readOf(0, 1), 0)
	asked("of no client", -1, readOf(0, 1), 0)
	asked("a commit", 3, commitOf(0), 2)
	asked("one that has ended", 3, readOf(0, 1), 2)
	if r.last().Reply.Err != api.ErrTxn {
		t.Errorf("it has ended: %s", show(r.last()))
	}
	r.do(crash(), open(0))
	asked("of an earlier life", 3, readOf(0, 1), 0)
	asked("of an earlier life", 5, commitOf(0), 0)
	r.want(3, begin(), begun(1, 0))
	asked("of this life", 3, readOf(0, 1), 1)
}

func TestStep(t *testing.T) { // P27.2
	for _, x := range []struct {
		a   int
		who int // of 1, 4, 6
	}{{0, 1}, {1, 4}, {2, 6}, {3, 1}, {5, 6}, {-1, 1}, {-2, 6}, {-3, 4}, {math.MinInt, 6}, {math.MaxInt, 4}} {
		if want := []int{1, 4, 6}[uint64(x.a)%3]; want != x.who { // 2^64 is 1 modulo 3
			t.Fatalf("%d modulo 3: %d", x.a, want)
		}
		r := newRig(t, small(), 5)
		r.do(ask(6, begin()), ask(1, begin()), ask(4, begin()), step(x.a))
		for _, told := range r.w.Told() {
			if told.Open == (told.Who == x.who) {
				t.Errorf("step %d: %s", x.a, show(told))
			}
			if told.Who == x.who && (told.To != 4 || told.Reply != begun(1, 0)) {
				t.Errorf("step %d: %s", x.a, show(told))
			}
		}
	}
}

func TestStepOfThoseWhoAreReady(t *testing.T) { // P27.2
	r := newRig(t, small(), 5)
	for who := range 3 {
		r.want(who, begin(), begun(uint64(who+1), 0))
		r.want(who, writeOf(0, uint16(who), 0, "x"), api.Reply{})
	}
	r.do(ask(1, commitOf(0)), step(0), ask(0, commitOf(0)), step(0)) // 1 has the turn, 0 waits
	r.do(ask(2, readOf(0, 3)))
	if s := r.w.Store(); s.Ready(0) || !s.Ready(1) || !s.Ready(2) {
		t.Fatal("not as it should be")
	}
	r.do(step(1))
	r.wantLast("the second who is ready", api.Told{Who: 2, Call: readOf(3, 3), From: r.events - 1, To: r.events, Reply: at(0)})
	for range 10 {
		r.do(step(2)) // 0 at first, as there is one alone
	}
	for _, told := range r.w.Told()[6:8] {
		if told.Open {
			t.Errorf("%s isn't ended", show(told))
		}
	}
	before := everything(r.w)
	for _, a := range []int{0, 1, -1, math.MinInt, math.MaxInt} { // nobody is ready
		r.do(step(a))
	}
	if everything(r.w) != before {
		t.Error("a step of nobody did something")
	}
}

// old is a rig in which the client 9 has a transaction that sees a page so many versions behind the newest one.
func old(t *testing.T, versions int) *rig {
	t.Helper()
	r := newRig(t, api.Config{Pages: 2, Undo: 32, Log: 512, MaxTs: 999}, 8)
	r.want(9, begin(), begun(1, 0))
	for i := range versions {
		r.committed(0, string(rune('a'+i%26)), 1)
		if i%20 == 19 {
			r.want(0, of(api.CCheckpoint), api.Reply{})
		}
	}
	return r
}

func TestRound(t *testing.T) { // P27.2
	r := old(t, 200) // a read takes 201 steps
	for _, a := range []int{0, -1, math.MinInt} {
		r.do(ask(9, readOf(0, 1)), round(a))
		if r.do(ask(8, begin())); !r.w.Store().Busy(9) || !r.w.Store().Busy(8) {
			t.Errorf("round %d has ended a call", a)
		}
		r.do(round(1))
		for range 200 {
			r.do(step(0))
		}
		if r.w.Store().Busy(9) || r.w.Store().Busy(8) {
			t.Errorf("behind round %d: more than 201 steps", a)
		}
		r.want(8, abortOf(0), api.Reply{})
	}
	for _, x := range []struct {
		rounds []int
		left   int
	}{
		{[]int{64, 64, 64, 8}, 1}, {[]int{65, 65, 65, 8}, 1}, {[]int{math.MaxInt, 1000, 64}, 9}, {[]int{1, 2, 63, 64, 64, 6}, 1}, {[]int{64, 64, 64, 9}, 0},
	} {
		r.do(ask(9, readOf(0, 1)))
		for _, a := range x.rounds {
			r.do(round(a))
		}
		if !r.last().Open != (x.left == 0) {
			t.Errorf("behind %v: %s", x.rounds, show(r.last()))
		}
		n := 0
		for ; r.last().Open; n++ {
			r.do(step(0))
		}
		if n != x.left {
			t.Errorf("behind %v: %d steps were left, want %d", x.rounds, n, x.left)
		}
		if got := r.last(); got.Reply != at(0) {
			t.Errorf("%s", show(got))
		}
	}
}

func TestRoundOfThoseWhoAreReadyThen(t *testing.T) { // P27.2
	r := newRig(t, small(), 5)
	for who := range 3 {
		r.call(who, begin())
		r.want(who, writeOf(0, uint16(who), 0, "x"), api.Reply{})
	}
	r.do(ask(1, commitOf(0)), step(0), ask(0, commitOf(0)), step(0), ask(2, commitOf(0)), step(1))
	r.do(round(3)) // 1: checked, held, installed
	if s := r.w.Store(); s.Oracle().Last() != 0 || s.Ready(0) || s.Ready(2) {
		t.Fatal("not as it should be")
	}
	r.do(round(1)) // 1 ends; 0 has the turn then, who comes ahead of 1 and goes not on in this round
	if l := r.w.Told(); l[6].Open || l[6].Reply != at(1) {
		t.Fatalf("%s", show(l[6]))
	}
	r.do(round(3))
	r.wantOpen("2 waits")
	r.do(round(1)) // 0 ends; 2 has the turn, and goes a step on behind it
	if l := r.w.Told(); l[7].Open || l[7].Reply != at(2) {
		t.Fatalf("%s", show(l[7]))
	}
	r.do(round(3)) // so three more are enough for 2: held, installed, told
	if got := r.last(); got.Open || got.To != r.events || got.Reply != at(3) {
		t.Errorf("%s", show(got))
	}
}

func TestRoundInWhichThePowerGoes(t *testing.T) { // P27.2
	r := newRig(t, wide(), 4)
	for who := range 4 {
		r.call(who, begin())
	}
	for who := range 4 {
		r.do(ask(who, readOf(0, uint16(who))))
	}
	r.do(fuse(3), round(9))
	for _, told := range r.w.Told() {
		if want := told.Call.Kind == api.CRead && told.Who > 1; told.Open != want {
			t.Errorf("%s", show(told))
		}
	}
	if r.w.Disk().Ops() != 3 || !r.w.Store().Ready(3) || r.w.Store().Busy(2) {
		t.Error("somebody went on behind it, or somebody didn't ahead of it")
	}
}

func TestFuseAndFail(t *testing.T) { // P27.2
	for _, x := range []struct {
		name   string
		events []api.Event
		want   [4]api.Errno // of four reads, of which each is an operation; ErrDown: it stays open
	}{
		{"none", nil, [4]api.Errno{}},
		{"a fail", []api.Event{fail(2)}, [4]api.Errno{0, api.ErrIO, 0, 0}},
		{"a fuse", []api.Event{fuse(3)}, [4]api.Errno{0, 0, api.ErrDown, api.ErrDown}},
		{"a fuse, a fail", []api.Event{fuse(1), fail(2)}, [4]api.Errno{0, api.ErrIO, 0, 0}},
		{"a fail, a fuse", []api.Event{fail(1), fuse(2)}, [4]api.Errno{0, api.ErrDown, api.ErrDown, api.ErrDown}},
		{"two fails", []api.Event{fail(1), fail(3)}, [4]api.Errno{0, 0, api.ErrIO, 0}},
		{"two fuses", []api.Event{fuse(1), fuse(4)}, [4]api.Errno{0, 0, 0, api.ErrDown}},
		{"a fuse of 0", []api.Event{fuse(1), fuse(0)}, [4]api.Errno{}},
		{"a fail of 0", []api.Event{fail(1), fail(0)}, [4]api.Errno{}},
		{"below 0", []api.Event{fuse(1), fail(-1), fuse(math.MinInt)}, [4]api.Errno{}},
	} {
		r := newRig(t, wide(), 4)
		r.want(0, begin(), begun(1, 0))
		r.w.Disk().Read(0)
		r.do(x.events...)
		if len(x.events) > 0 && r.w.Disk().Ops() != 0 {
			t.Errorf("%s: Ops = %d", x.name, r.w.Disk().Ops())
		}
		for no, want := range x.want {
			r.do(ask(0, readOf(0, uint16(no))), round(1))
			got := r.last()
			if down := want == api.ErrDown; r.w.Disk().Down() != down || !down && (got.Open || got.Reply.Err != want) {
				t.Errorf("%s: %d: %s", x.name, no, show(got))
			}
		}
	}
}

func TestStepInWhichThePowerGoes(t *testing.T) { // P27.2: nothing is told as answered
	for _, c := range []api.Call{readOf(0, 2), writeOf(0, 2, 0, "x"), of(api.CCommit), of(api.CCheckpoint), of(api.CClose), of(api.CVacuum)} {
		r := newRig(t, wide(), 4)
		r.call(0, begin())
		r.want(0, writeOf(0, 1, 0, "y"), api.Reply{})
		r.committed(1, "z", 3)
		n := len(r.w.Told())
		r.do(ask(0, c), fuse(1), round(64))
		if !r.w.Disk().Down() {
			t.Fatalf("%+v: the disk isn't down", c)
		}
		told := r.w.Told()
		if len(told) != n+1 || !told[n].Open || told[n].To != 0 || told[n].Reply != (api.Reply{}) {
			t.Errorf("%s", show(told[n]))
		}
		before := told[n]
		r.do(round(64), crash(), round(64), open(0), round(64))
		if r.w.Told()[n] != before || r.w.Store().Busy(0) {
			t.Errorf("behind the crash: %s", show(r.w.Told()[n]))
		}
	}
}

func TestCrashWithCallsUnderWay(t *testing.T) { // P27.2
	r := newRig(t, small(), 5)
	r.call(0, begin())
	r.call(1, begin())
	r.want(0, writeOf(0, 1, 0, "no"), api.Reply{})
	r.do(ask(0, commitOf(0)), round(2), ask(1, readOf(0, 1)), ask(2, begin()))
	before := r.w.Told()
	r.do(crash(), ask(0, begin()), round(9), open(0), round(9))
	r.do(ask(0, begin()), ask(1, begin()), ask(2, begin()), round(9)) // nobody is busy
	got := r.w.Told()
	for i, told := range before {
		if got[i] != told {
			t.Errorf("%s was told, and then %s", show(told), show(got[i]))
		}
	}
	if len(got) != len(before)+3 {
		t.Fatalf("%d were told", len(got))
	}
	for i, told := range got[len(before):] {
		if want := (api.Told{Who: i, Call: begin(), Life: 1, From: r.events - 3 + i, To: r.events, Reply: begun(uint64(i+1), 0)}); told != want {
			t.Errorf("%s, want %s", show(told), show(want))
		}
	}
	for i := range 3 { // three that were under way
		if !got[len(before)-1-i].Open {
			t.Errorf("%s", show(got[len(before)-1-i]))
		}
	}
}

func TestCrashKeeps(t *testing.T) { // P27.2
	keeps := [][]bool{nil, {true}, {false, true, true}, {true, true, true, true}, {false, false, false, true, true, true, true, true, true}, make([]bool, 1000)}
	for _, keep := range keeps {
		r := newRig(t, small(), 5)
		r.committed(0, "hi", 2)
		r.do(fuse(2), ask(0, of(api.CCheckpoint)), round(9)) // a page is written, and not synced
		d := r.w.Disk()
		if d.Pending() != 4 || !d.Down() {
			t.Fatalf("%d are pending", d.Pending())
		}
		const block = 2 + 2
		was, written := d.Sure(block), d.Seen(block)
		kept := append([]bool{}, keep...)
		r.do(crash(kept...))
		for i := range 4 {
			want := was
			if i < len(keep) && keep[i] {
				want = written
			}
			if got := d.Sure(block); string(got[64*i:64*i+64]) != string(want[64*i:64*i+64]) {
				t.Errorf("%v: the sector %d isn't as it should be", keep, i)
			}
		}
		if d.Pending() != 0 || d.Down() || d.Ops() != 0 || d.Seen(block) != d.Sure(block) {
			t.Errorf("%v: %d are pending", keep, d.Pending())
		}
		for i := range keep {
			if kept[i] != keep[i] {
				t.Error("what was handed in has changed")
			}
		}
		r.do(open(0))
		r.wantPages("opened again", version(0, ""), version(0, ""), version(1, "hi"), version(0, ""))
	}
}

func TestCrashWithThePowerOn(t *testing.T) { // P27.2
	r := newRig(t, small(), 5)
	r.committed(0, "hi", 2)
	r.do(fail(2), ask(0, of(api.CCheckpoint)), round(9)) // a page is written; the sync fails
	if d := r.w.Disk(); d.Pending() != 4 || d.Down() || r.last().Reply != fails(api.ErrIO) {
		t.Fatalf("%d are pending, %s", d.Pending(), show(r.last()))
	}
	r.do(crash(true, false, true))
	if got := r.torn(small()); len(got) != 1 || got[0] != (api.PageID{No: 2}) {
		t.Errorf("%v are torn", got)
	}
	r.do(open(0))
	r.wantPages("opened again", version(0, ""), version(0, ""), version(1, "hi"), version(0, ""))
}

func TestOpenWithAStore(t *testing.T) { // P27.2
	r := newRig(t, small(), 5)
	r.do(ask(0, begin()))
	before, s := everything(r.w), r.w.Store()
	r.do(open(0), open(7), open(-3))
	if everything(r.w) != before || r.w.Store() != s {
		t.Error("it was opened again")
	}
	r.do(round(1))
	r.want(0, of(api.CClose), api.Reply{})
	before = everything(r.w)
	r.do(open(0)) // one that is halted stays till the power goes
	if everything(r.w) != before || r.w.Store() != s || !s.Halted() {
		t.Error("behind a close it was opened again")
	}
	r.do(crash(), open(0))
	if r.w.Life() != 1 || r.w.Store().Halted() {
		t.Error("behind a crash it wasn't opened")
	}
}

func TestOpenWithFrames(t *testing.T) { // P27.2
	for _, x := range []struct{ a, frames int }{
		{0, 9}, {-1, 9}, {-29, 9}, {math.MinInt, 9}, {1, 5}, {2, 6}, {5, 9}, {27, 31}, {28, 32}, {29, 4}, {30, 5}, {57, 32}, {58, 4}, {math.MaxInt, 4 + math.MaxInt%29},
	} {
		r := newRig(t, api.Config{Pages: 16, Undo: 32, Log: 64, MaxTs: 9}, 9)
		r.do(crash(), open(3), crash(), open(x.a))
		if r.w.Life() != 2 {
			t.Fatalf("open %d: Life = %d", x.a, r.w.Life())
		}
		if got := r.frames(); got != x.frames {
			t.Errorf("open %d: %d frames, want %d", x.a, got, x.frames)
		}
	}
}

func TestOpenThatFails(t *testing.T) { // P27.2
	r := newRig(t, small(), 5)
	r.committed(0, "hi", 2)
	r.do(crash(), open(0))
	lives := 1
	for n := 1; ; n++ {
		r.do(crash(), fail(n), open(0))
		if r.w.Store() != nil { // it takes fewer operations
			lives++
			if n < 10 {
				t.Errorf("it takes %d operations", n-1)
			}
			break
		}
		if r.w.Life() != lives || r.w.Disk().Down() {
			t.Fatalf("the operation %d fails: Life = %d, want %d", n, r.w.Life(), lives)
		}
		if list, e := r.w.Pages(); e != api.ErrHalted || len(list) != 0 {
			t.Errorf("Pages = %v, %d", list, e)
		}
		n := len(r.w.Told())
		r.do(ask(0, begin()), step(0), round(4))
		if len(r.w.Told()) != n {
			t.Error("something was told without a store")
		}
		r.do(open(0)) // without a crash: it can be done once more
		if lives++; r.w.Life() != lives || r.w.Store() == nil {
			t.Fatalf("once more: Life = %d, want %d", r.w.Life(), lives)
		}
		r.do(ask(0, begin()))
		if got := r.last(); got.Life != lives {
			t.Errorf("%s", show(got))
		}
		r.wantPages("once more", version(0, ""), version(0, ""), version(1, "hi"), version(0, ""))
	}
	if r.w.Life() != lives {
		t.Errorf("Life = %d, want %d", r.w.Life(), lives)
	}
}

func TestNothingIsKeptOrChanged(t *testing.T) { // rule 4
	r := newRig(t, small(), 5)
	r.committed(0, "hi", 2)
	keep := make([]bool, 2, 9)
	e := api.Event{Kind: api.ECrash, Keep: keep}
	r.do(e)
	for _, is := range keep[:9] {
		if is {
			t.Error("what was handed in has changed")
		}
	}
}

func TestAskedOfTheStoreItself(t *testing.T) { // no panic, and nothing told
	r := newRig(t, small(), 5)
	if e := r.w.Store().Ask(4, begin()); e != api.OK {
		t.Fatalf("Ask = %d", e)
	}
	r.do(round(1), step(0))
	if len(r.w.Told()) != 0 || r.w.Store().Busy(4) {
		t.Errorf("Told = %v", r.w.Told())
	}
}
