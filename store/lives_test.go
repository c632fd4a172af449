package store

import (
	"math/rand"
	"slices"
	"testing"

	"varve/api"
	"varve/chain"
	"varve/disk"
	"varve/hist"
	"varve/model"
)

// lives is a store under clients that do as they like, opened again and again, held against chapter 25's machine.
type lives struct {
	t      *testing.T
	x      *rand.Rand
	c      api.Config
	frames int
	d      *disk.Disk
	s      *Store
	m      *model.Model
	life   int
	names  map[uint64]uint64 // of this life's transactions, the machine's
	own    [10]uint64        // each client's transaction
	told   []api.Told
	asked  [10]int       // where a client's call stands in that
	steps  [10]int       // how many it has taken,
	most   [10]int       // and may take
	doubt  int           // where the commit stands of which nobody knows, or -1
	done   map[uint8]int // how many calls were answered
}

func newLives(t *testing.T, seed int64, c api.Config, frames int) *lives {
	t.Helper()
	l := &lives{t: t, x: rand.New(rand.NewSource(seed)), c: c, frames: frames, d: formatted(t, c), done: make(map[uint8]int), doubt: -1}
	l.m = model.New(c.Pages, c.MaxTs)
	l.open()
	return l
}

// open opens the store, if the disk lets it.
func (l *lives) open() bool {
	l.t.Helper()
	s, e := Open(l.d, l.frames)
	if e != api.OK {
		return false
	}
	l.d.Plan(nil, 0)
	l.s, l.names, l.own = s, make(map[uint64]uint64), [10]uint64{}
	l.life++
	if s.Oracle().Last() == l.m.Last()+1 && l.doubt >= 0 {
		l.settle()
	}
	for txn := range uint64(len(l.told)) { // nobody else is committed any more
		l.m.Do(abortOf(txn + 1))
	}
	l.doubt = -1
	l.wantPages()
	return true
}

// settle notes that the commit of which nobody knew is there.
func (l *lives) settle() {
	l.t.Helper()
	told := &l.told[l.doubt]
	got := l.m.Do(commitOf(told.Call.Txn))
	if got.Err != api.OK {
		l.t.Fatalf("a commit is there that can't be: %s", show(got))
	}
	told.Open, told.Reply = false, got
}

func (l *lives) wantPages() {
	l.t.Helper()
	if l.s.Oracle().Last() != l.m.Last() {
		l.t.Fatalf("Last = %d, want %d", l.s.Oracle().Last(), l.m.Last())
	}
	for no := range l.c.Pages {
		v, e := chain.Newest(l.s.State().Base().Cache(), uint16(no))
		if want := l.m.At(uint16(no), l.m.Last()); e != api.OK || v.Ts != want.Ts || v.Body != want.Body {
			l.t.Fatalf("the page %d is of %d, %d, want %d", no, v.Ts, e, want.Ts)
		}
	}
}

// any is a call that a client may want.
func (l *lives) any(who int) api.Call {
	txn := l.own[who]
	page := uint16(l.x.Intn(l.c.Pages))
	s := []string{"", "a", "xyz", whole(byte('a' + l.x.Intn(26)))}[l.x.Intn(4)]
	off := l.x.Intn(65 - len(s))
	switch k := l.x.Intn(40); {
	case k == 0:
		return of(api.CVacuum)
	case k == 1:
		return of(api.CCheckpoint)
	case txn == 0:
		return begin()
	case k < 12:
		return readOf(txn, page)
	case k < 30:
		return writeOf(txn, page, off, s)
	case k < 38:
		return commitOf(txn)
	}
	return abortOf(txn)
}

func (l *lives) ask(who int, c api.Call) {
	l.t.Helper()
	if e := l.s.Ask(who, c); e != api.OK {
		l.t.Fatalf("Ask(%d, %+v) = %d", who, c, e)
	}
	l.steps[who] = 0
	l.asked[who] = len(l.told)
	c.Txn = l.names[c.Txn]
	l.told = append(l.told, api.Told{Who: who, Call: c, Open: true})
}

// bound is how many steps a call takes at most.
func (l *lives) bound(c api.Call) int {
	b := l.s.State().Base()
	switch c.Kind {
	case api.CRead, api.CWrite:
		list, e := chain.Versions(b.Cache(), c.Page)
		if e != api.OK { // the disk has just failed
			return 1000
		}
		return 1 + len(list)
	case api.CCommit:
		return 11
	case api.CVacuum:
		return 4 + l.c.Pages + l.c.Undo*api.MaxSlots
	case api.CCheckpoint:
		return 2 + l.frames
	}
	return 1
}

func (l *lives) step(who int) {
	l.t.Helper()
	if !l.s.Ready(who) {
		return
	}
	c := l.told[l.asked[who]].Call
	if l.steps[who]++; l.steps[who] == 1 {
		l.most[who] = l.bound(c)
	}
	got, done := l.s.Step(who)
	if l.steps[who] > l.most[who] {
		l.t.Fatalf("%+v takes more than %d steps", c, l.most[who])
	}
	if done && !l.d.Down() {
		l.answered(who, got)
	} else if done {
		l.inDoubt(who)
	}
}

// inDoubt notes that a commit may last, or not; nothing that is told behind it lasts.
func (l *lives) inDoubt(who int) {
	if at := l.asked[who]; l.doubt < 0 && l.told[at].Call.Kind == api.CCommit {
		l.doubt = at
	}
}

// answered holds an answer against the machine's.
func (l *lives) answered(who int, got api.Reply) {
	l.t.Helper()
	told := &l.told[l.asked[who]]
	c := told.Call
	l.done[c.Kind]++
	if c.Kind == api.CCommit || c.Kind == api.CAbort {
		l.own[who] = 0
	}
	switch got.Err {
	case api.ErrHalted:
		l.inDoubt(who)
		return
	case api.ErrForm, api.ErrArg, api.ErrBusy:
		l.t.Fatalf("%+v = %s", c, show(got))
	case api.ErrNoFrame:
		if l.frames > 4 {
			l.t.Fatalf("%+v = %s with %d frames", c, show(got), l.frames)
		}
		fallthrough
	case api.ErrIO, api.ErrFull:
		if c.Kind == api.CCommit {
			l.m.Do(abortOf(c.Txn))
		}
	default:
		l.compare(who, c, got)
	}
	told.Open, told.Reply = false, got
	told.Reply.Txn = l.names[got.Txn]
}

func (l *lives) compare(who int, c api.Call, got api.Reply) {
	l.t.Helper()
	want := l.m.Do(c)
	if c.Kind == api.CBegin && want.Err == api.OK {
		l.names[got.Txn] = want.Txn
		l.own[who] = got.Txn
		want.Txn = got.Txn
	}
	if got != want {
		l.t.Fatalf("%+v = %s, want %s", c, show(got), show(want))
	}
}

// event lets somebody ask, or go on.
func (l *lives) event() {
	l.t.Helper()
	who := l.x.Intn(10)
	switch {
	case !l.s.Busy(who):
		if l.x.Intn(3) == 0 {
			l.ask(who, l.any(who))
		}
	case l.x.Intn(8) == 0: // a round
		for who := range 10 {
			l.step(who)
		}
	default:
		l.step(who)
	}
}

// crash turns the power off and on, with any of what didn't last kept, and opens the store; the power may go then, too.
func (l *lives) crash(again bool) {
	l.t.Helper()
	if line := l.s.turn.Line(); len(line) > 0 && !l.s.Halted() {
		l.inDoubt(line[0])
	}
	for range 20 {
		keep := make([]bool, l.d.Pending())
		for i := range keep {
			keep[i] = l.x.Intn(2) == 0
		}
		l.d.Crash(keep)
		l.d.Plan(nil, 0)
		if again && l.x.Intn(3) > 0 {
			l.d.Plan(nil, 1+l.x.Intn(40))
		}
		if l.open() {
			return
		}
	}
	l.d.Crash(nil)
	if !l.open() {
		l.t.Fatal("it can't be opened")
	}
}

// wantNothingShown fails, if all that was told shows what no history must.
func (l *lives) wantNothingShown() {
	l.t.Helper()
	if got, e := hist.Check(hist.Of(l.told)); got != 0 || e != api.OK {
		l.t.Errorf("the history shows %d, %d", got, e)
	}
}

// drain lets all calls end.
func (l *lives) drain() {
	l.t.Helper()
	for range 800 {
		for who := range 10 {
			l.step(who)
		}
	}
	for who := range 10 {
		if l.s.Busy(who) {
			l.t.Fatalf("the call of %d doesn't end", who)
		}
	}
}

func TestSideBySide(t *testing.T) { // P24.5, P1, P2, P4, P6
	done := make(map[uint8]int)
	for seed := range int64(60) {
		c := api.Config{Pages: 2 + int(seed%9), Undo: 4 + int(seed%7), Log: 128 + int(seed), MaxTs: 400}
		l := newLives(t, seed, c, 4+int(seed%5))
		for range 4000 {
			l.event()
		}
		l.drain()
		l.wantPages()
		l.wantNothingShown()
		(&rig{t, l.d, l.s}).wantRest("at the end")
		if l.s.Halted() {
			t.Error("it is halted, though nothing failed")
		}
		for kind, n := range l.done {
			done[kind] += n
		}
	}
	for kind := range api.CClose {
		if done[kind] < 500 {
			t.Errorf("only %d calls of the kind %d were done", done[kind], kind)
		}
	}
}

func TestFramesChangeNoAnswer(t *testing.T) { // P4
	c := api.Config{Pages: 9, Undo: 20, Log: 300, MaxTs: 400}
	var first []api.Told
	for frames := 5; frames <= 32; frames += 3 {
		l := newLives(t, 7, c, frames)
		for range 1500 {
			// a checkpoint has as many steps as there are dirty pages, so that none is asked for here
			if l.x.Intn(40) == 0 {
				l.drain()
			}
			who := l.x.Intn(10)
			if k := l.any(who); !l.s.Busy(who) && k.Kind != api.CCheckpoint {
				l.ask(who, k)
			}
			l.step(l.x.Intn(10))
		}
		l.drain()
		if first == nil {
			first = l.told
		}
		if !slices.Equal(l.told, first) {
			t.Errorf("with %d frames something else was answered", frames)
		}
	}
	if len(first) < 500 {
		t.Errorf("only %d calls", len(first))
	}
}

func TestPowerAtEachOperation(t *testing.T) { // P24.5, P3
	c := api.Config{Pages: 5, Undo: 6, Log: 90, MaxTs: 200}
	for seed := range int64(3) {
		run := func(l *lives) {
			for range 700 {
				if l.event(); l.d.Down() {
					return
				}
			}
		}
		l := newLives(t, seed, c, 5)
		l.d.Plan(nil, 0)
		run(l)
		ops := l.d.Ops()
		if ops < 60 {
			t.Fatalf("only %d operations", ops)
		}
		for k := 1; k <= ops; k++ {
			l := newLives(t, seed, c, 5)
			l.d.Plan(nil, k)
			run(l)
			l.x = rand.New(rand.NewSource(int64(k)))
			l.crash(k%2 == 0)
			for range 150 {
				l.event()
			}
			l.drain()
			l.wantPages()
			l.wantNothingShown()
		}
	}
}

func TestManyLives(t *testing.T) { // P24.5, P3, P6: crashes, failures, and halts
	halts := 0
	for seed := range int64(80) {
		c := api.Config{Pages: 2 + int(seed%6), Undo: 3 + int(seed%5), Log: 80 + int(seed), MaxTs: 300}
		l := newLives(t, seed, c, 4+int(seed%4))
		for range 2500 {
			switch k := l.x.Intn(300); {
			case l.d.Down() || k == 0:
				l.crash(true)
			case l.s.Halted():
				halts++
				for who := range 10 {
					l.step(who)
				}
				l.crash(false)
			case k == 1:
				l.d.Plan(nil, 1+l.x.Intn(60))
			case k < 5:
				l.d.Plan([]int{1 + l.x.Intn(20), 1 + l.x.Intn(20)}, 0)
			default:
				l.event()
			}
		}
		l.crash(false)
		l.drain()
		l.wantNothingShown()
	}
	if halts < 20 {
		t.Errorf("it was halted only %d times", halts)
	}
}
