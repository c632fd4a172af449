package world

import (
	"math/rand"
	"slices"
	"testing"

	"varve/api"
)

func TestSideBySide(t *testing.T) { // P1, P2, P5, P6
	done := make(map[[2]int]int)
	for seed := range int64(50) {
		c := api.Config{Pages: 2 + int(seed%15), Undo: 3 + int(seed%9), Log: 90 + 3*int(seed), MaxTs: 400}
		p := newPeople(t, seed, c, 4+int(seed%6))
		for range 2500 {
			p.event()
		}
		p.drain()
		p.wantPages("at the end")
		p.wantNothingShown()
		p.wantVacuumed()
		if p.w.Store().Halted() {
			t.Error("it is halted, though nothing failed")
		}
		for k, n := range p.done {
			done[k] += n
		}
	}
	for kind := range int(api.CClose) {
		if done[[2]int{kind, 0}] < 300 {
			t.Errorf("only %d calls of the kind %d were done", done[[2]int{kind, 0}], kind)
		}
	}
	for _, k := range [][2]int{{int(api.CCommit), int(api.ErrConflict)}, {int(api.CCommit), int(api.ErrFull)}, {int(api.CBegin), int(api.ErrMany)}, {int(api.CWrite), int(api.ErrMany)}} {
		if done[k] < 10 {
			t.Errorf("%v: only %d", k, done[k])
		}
	}
}

func TestManyLives(t *testing.T) { // P1, P2, P3, P5, P6: failures, crashes, halts, closes
	done := make(map[[2]int]int)
	found := 0
	for seed := range int64(70) {
		c := api.Config{Pages: 1 + int(seed%16), Undo: 2 + int(seed%7), Log: 64 + 2*int(seed), MaxTs: 300}
		p := newPeople(t, seed, c, 4+int(seed%5))
		for range 1500 {
			switch k := p.x.Intn(300); {
			case p.w.disk.Down() || k == 0 || p.w.store.Halted() && k < 60:
				p.again(true)
			case k == 1:
				p.do(fuse(1 + p.x.Intn(20)))
			case k < 4:
				p.do(fail(1 + p.x.Intn(20)))
			case k == 4 && !p.w.store.Busy(7):
				p.do(ask(7, of(api.CClose)))
			default:
				p.event()
			}
		}
		p.again(false)
		p.wantNothingShown()
		p.wantVacuumed()
		found += len(p.found)
		for k, n := range p.done {
			done[k] += n
		}
	}
	for _, k := range [][2]int{{int(api.CCommit), int(api.ErrHalted)}, {int(api.CCommit), int(api.ErrIO)}, {int(api.CRead), int(api.ErrIO)}, {int(api.CClose), 0}, {int(api.CClose), int(api.ErrBusy)}, {int(api.CCommit), int(api.ErrConflict)}} {
		if done[k] < 5 {
			t.Errorf("%v: only %d", k, done[k])
		}
	}
	if found < 5 {
		t.Errorf("only %d commits that were under way are there", found)
	}
}

// powerAt runs a script, with the power going at each of its operations, and again while it is opened.
func powerAt(t *testing.T, c api.Config, frames int, script []api.Event) {
	t.Helper()
	first := newPeople(t, 0, c, frames)
	for _, e := range script {
		first.do(e)
	}
	ops := first.w.disk.Ops()
	if ops < 10 {
		t.Fatalf("only %d operations", ops)
	}
	for k := 1; k <= ops; k++ {
		p := newPeople(t, int64(k), c, frames)
		p.do(fuse(k))
		for _, e := range script {
			p.do(e)
		}
		if !p.w.disk.Down() {
			t.Fatalf("the power hasn't gone at %d of %d", k, ops)
		}
		p.again(k%3 > 0)
		for range 60 {
			p.event()
		}
		p.drain()
		p.wantPages("at the end")
		p.wantNothingShown()
	}
}

// scripted is what people have done that went so.
func scripted(t *testing.T, seed int64, c api.Config, frames, events int) []api.Event {
	t.Helper()
	p := newPeople(t, seed, c, frames)
	var list []api.Event
	for range events {
		who := p.x.Intn(6)
		e := step(p.x.Intn(10))
		if k := p.x.Intn(8); k == 7 {
			e = round(1)
		} else if !p.w.store.Busy(who) && k < 5 {
			e = ask(who, p.any(who))
		}
		p.do(e)
		list = append(list, e)
	}
	return list
}

func TestPowerAtEachOperation(t *testing.T) { // P3
	for i, c := range []api.Config{
		{Pages: 5, Undo: 6, Log: 90, MaxTs: 200}, {Pages: 16, Undo: 14, Log: 128, MaxTs: 200}, {Pages: 3, Undo: 3, Log: 64, MaxTs: 200},
	} {
		for j, frames := range []int{5, 4, 16} {
			powerAt(t, c, frames, scripted(t, int64(10*i+j), c, frames, 250))
		}
	}
}

// ahead are commits that leave pages dirty, with versions, some of which a vacuum lets go.
func ahead(pages int) []api.Event {
	var list []api.Event
	do := func(who int, c api.Call) {
		list = append(list, ask(who, c))
		for range 12 {
			list = append(list, round(1))
		}
	}
	for i := range 5 {
		if i == 2 {
			do(9, begin()) // it stays live: what it sees is kept
		}
		do(0, begin())
		for no := range 3 { // so that four frames are enough
			do(0, writeOf(0, uint16((no+i)%pages), i, whole(byte('a' + i))[:20+8*no]))
		}
		do(0, commitOf(0))
	}
	return list
}

func TestPowerWhileACheckpointIsMade(t *testing.T) { // P3
	for _, frames := range []int{4, 5, 12} {
		c := api.Config{Pages: 6, Undo: 5, Log: 100, MaxTs: 99}
		script := append(ahead(c.Pages), ask(3, of(api.CCheckpoint)))
		for range frames + 2 {
			script = append(script, round(1))
		}
		powerAt(t, c, frames, script)
	}
}

func TestPowerWhileAVacuumRuns(t *testing.T) { // P3
	for _, frames := range []int{4, 5, 12} {
		c := api.Config{Pages: 4, Undo: 5, Log: 100, MaxTs: 99}
		script := append(ahead(c.Pages), ask(3, of(api.CCheckpoint)))
		for range frames + 2 {
			script = append(script, round(1))
		}
		script = append(script, ask(3, of(api.CVacuum)), ask(4, of(api.CVacuum)), ask(0, begin()))
		for range 80 {
			script = append(script, round(1))
		}
		script = append(script, ask(3, of(api.CCheckpoint)))
		for range frames + 2 {
			script = append(script, round(1))
		}
		powerAt(t, c, frames, script)
	}
}

func TestPowerWhileItIsOpened(t *testing.T) { // P3: at each operation, once or twice, with all sorts of things kept
	c := api.Config{Pages: 5, Undo: 4, Log: 80, MaxTs: 99}
	script := append(ahead(c.Pages), ask(0, begin()), round(1), ask(0, writeOf(0, 1, 0, "no")), round(1), ask(0, commitOf(0)), round(1), round(1), round(1), round(1))
	for _, frames := range []int{4, 5, 20} {
		for k := 1; ; k++ {
			p := newPeople(t, int64(k), c, frames)
			for _, e := range script {
				p.do(e)
			}
			p.do(crash(p.keep()...))
			p.do(fuse(k))
			if p.do(open(0)); p.w.store != nil {
				if k < 40 {
					t.Errorf("with %d frames it is opened in %d operations", frames, k-1)
				}
				break
			}
			if !p.w.disk.Down() || p.w.Life() != 0 {
				t.Fatalf("the power hasn't gone at %d", k)
			}
			p.do(crash(p.keep()...))
			p.do(fuse(1 + p.x.Intn(2*k)))
			p.do(open(0))
			if p.w.store == nil {
				p.do(crash(p.keep()...))
				p.do(open(0))
			}
			if p.w.store == nil {
				t.Fatalf("with %d frames: broken off at %d, it isn't opened any more", frames, k)
			}
			p.wantVacuumed()
			p.wantNothingShown()
		}
	}
}

func TestFramesChangeNoAnswer(t *testing.T) { // P4
	for seed := range int64(3) {
		c := api.Config{Pages: 9 + int(seed), Undo: 20, Log: 512, MaxTs: 400}
		x := rand.New(rand.NewSource(seed))
		// A checkpoint has as many steps as there are dirty pages, so that none is made here.
		var script []api.Event
		for range 500 {
			script = append(script, ask(x.Intn(10), anyCall(x, api.Config{Pages: c.Pages})), step(x.Intn(10)))
		}
		script = slices.DeleteFunc(script, func(e api.Event) bool {
			return e.Kind == api.EAsk && (e.Call.Kind == api.CCheckpoint || e.Call.Kind == api.CClose)
		})
		var want []api.Told
		for frames := 5; frames <= 32; frames++ {
			w := New(c, frames)
			for _, e := range script {
				w.Do(e)
			}
			if want == nil {
				want = w.Told()
			}
			if got := w.Told(); !slices.Equal(got, want) {
				t.Errorf("seed %d: with %d frames something else was answered", seed, frames)
			}
		}
		if len(want) < 300 {
			t.Errorf("only %d calls", len(want))
		}
	}
}

func TestFramesChangeNoAnswerOneByOne(t *testing.T) { // P4: with checkpoints; all others stand still till one is done
	for seed := range int64(2) {
		c := api.Config{Pages: 16, Undo: 14, Log: 512, MaxTs: 400}
		var want []api.Reply
		for frames := 5; frames <= 32; frames += 3 {
			x := rand.New(rand.NewSource(seed))
			r := newRig(t, c, frames)
			var got []api.Reply
			for n := range 500 {
				k := anyCall(x, c)
				if k.Kind == api.CClose {
					k.Kind = api.CVacuum
				}
				got = append(got, r.call(x.Intn(10), k))
				if n%20 == 0 {
					got = append(got, r.call(0, of(api.CCheckpoint)))
				}
			}
			if want == nil {
				want = got
			}
			if !slices.Equal(got, want) {
				t.Errorf("seed %d: with %d frames something else was answered", seed, frames)
			}
		}
	}
}

func TestOneClientAlone(t *testing.T) { // P4: with room, and without faults
	for _, frames := range []int{5, 6, 32} {
		p := newPeople(t, int64(frames), api.Config{Pages: 16, Undo: 14, Log: 100, MaxTs: 1000}, frames)
		call := func(c api.Call) {
			t.Helper()
			p.do(ask(4, c))
			p.drain()
			if got := p.w.told[len(p.w.told)-1]; got.Reply.Err != api.OK {
				t.Fatalf("with %d frames: %s", frames, show(got))
			}
		}
		for n := range 150 {
			call(begin())
			for range p.x.Intn(12) {
				call(readOf(0, uint16(p.x.Intn(16))))
			}
			for range p.x.Intn(5) {
				call(writeOf(0, uint16(p.x.Intn(16)), p.x.Intn(30), whole('x')[:p.x.Intn(34)]))
			}
			if n%7 == 0 {
				call(abortOf(0))
			} else {
				call(commitOf(0))
			}
			call(of([]uint8{api.CCheckpoint, api.CVacuum}[n%2]))
		}
		call(of(api.CClose))
	}
}

func TestVacuumsAndCheckpointsChangeNoAnswer(t *testing.T) { // P5
	for seed := range int64(6) {
		c := api.Config{Pages: 5, Undo: 20, Log: 512, MaxTs: 400}
		x := rand.New(rand.NewSource(seed))
		var calls []api.Event
		for range 400 {
			calls = append(calls, ask(x.Intn(8), anyCall(x, c)))
		}
		run := func(more func(r *rig)) []api.Told {
			r := newRig(t, c, 5)
			var told []api.Told
			for _, e := range calls {
				if e.Call.Kind > api.CAbort { // these come of more alone
					continue
				}
				r.do(e)
				r.rest()
				last := r.last()
				last.From, last.To = 0, 0
				told = append(told, last)
				more(r)
			}
			return told
		}
		want := run(func(*rig) {})
		for kinds := 1; kinds <= 3; kinds++ {
			got := run(func(r *rig) {
				for i, kind := range []uint8{api.CVacuum, api.CCheckpoint} {
					if kinds>>i&1 == 1 && x.Intn(3) == 0 {
						if e := r.call(9, of(kind)).Err; e != api.OK && e != api.ErrFull {
							t.Errorf("seed %d: %s", seed, show(r.last()))
						}
					}
				}
			})
			if !slices.Equal(got, want) {
				t.Errorf("seed %d: something else was answered", seed)
			}
		}
	}
}

func TestRoomBehindFull(t *testing.T) { // P5
	full := 0
	for seed := range int64(12) {
		c := api.Config{Pages: 3, Undo: 1 + int(seed%4), Log: 64 + int(seed%3)*20, MaxTs: 10000}
		p := newPeople(t, seed, c, 5)
		for range 300 {
			for _, k := range []api.Call{begin(), writeOf(0, uint16(p.x.Intn(3)), 0, whole(byte('a'+p.x.Intn(26)))), writeOf(0, uint16(p.x.Intn(3)), 9, "x"), commitOf(0)} {
				p.do(ask(1, k))
				p.drain()
			}
			if p.w.told[len(p.w.told)-1].Reply.Err == api.ErrFull {
				full++
				p.wantVacuumed()
				for _, k := range []api.Call{of(api.CCheckpoint), begin(), writeOf(0, 1, 0, "room"), commitOf(0)} {
					p.do(ask(1, k))
					p.drain()
				}
				if got := p.w.told[len(p.w.told)-1]; got.Reply.Err != api.OK {
					t.Fatalf("seed %d: behind a vacuum: %s", seed, show(got))
				}
			}
		}
	}
	if full < 50 {
		t.Errorf("it was full only %d times", full)
	}
}

func TestAllCallsEnd(t *testing.T) { // P6: when each client goes a step on in each round
	for seed := range int64(20) {
		c := api.Config{Pages: 6, Undo: 10, Log: 200, MaxTs: 400}
		p := newPeople(t, seed, c, 5)
		for range 40 {
			for who := range 10 {
				if !p.w.store.Busy(who) {
					p.do(ask(who, p.any(who)))
				}
			}
			p.drain()
		}
	}
}
