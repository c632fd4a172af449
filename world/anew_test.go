package world

import (
	"math"
	"math/rand"
	"slices"
	"strconv"
	"testing"

	"varve/api"
	"varve/chain"
	"varve/disk"
	"varve/master"
	"varve/restart"
	"varve/store"
)

// plain is the chapter told anew: nothing is kept but what was told, in which all else is looked up.
type plain struct {
	d      *disk.Disk
	s      *store.Store
	frames int
	life   int
	n      int
	told   []api.Told
}

func plainNew(c api.Config, frames int) *plain {
	d := disk.New(master.Size(c))
	restart.Format(d, c)
	s, _ := store.Open(d, frames)
	d.Plan(nil, 0)
	return &plain{d: d, s: s, frames: frames}
}

func (p *plain) do(e api.Event) {
	p.n++
	if e.Kind == api.ECrash {
		p.d.Crash(e.Keep)
		p.s = nil
	}
	if p.d.Down() {
		return
	}
	switch {
	case e.Kind == api.EAsk && p.s != nil:
		p.ask(e.A, e.Call)
	case e.Kind == api.EStep:
		ready := slices.DeleteFunc([]int{0, 1, 2, 3, 4, 5, 6, 7, 8, 9}, func(who int) bool { return !p.s.Ready(who) })
		if n := uint64(len(ready)); n > 0 {
			p.step(ready[uint64(e.A)%n])
		}
	case e.Kind == api.ERound:
		for i := 0; i < e.A && i < 64; i++ {
			for who := 0; who <= 9; who++ {
				p.step(who)
			}
		}
	case e.Kind == api.EFuse:
		p.d.Plan(nil, e.A)
	case e.Kind == api.EFail:
		p.d.Plan([]int{e.A}, 0)
	case e.Kind == api.EOpen && p.s == nil:
		frames := p.frames
		if e.A > 0 {
			frames = 4 + e.A%29
		}
		s, err := store.Open(p.d, frames)
		if err == api.OK {
			p.s = s
			p.life++
		}
	}
}

func (p *plain) ask(who int, c api.Call) {
	if c.Txn == 0 && who >= 0 && who <= 9 {
		for _, t := range p.told {
			if t.Life == p.life && t.Who == who && t.Call.Kind == api.CBegin && !t.Open && t.Reply.Err == api.OK {
				c.Txn = t.Reply.Txn
			}
		}
	}
	t := api.Told{Who: who, Call: c, Life: p.life, From: p.n, Open: true}
	if e := p.s.Ask(who, c); e != api.OK {
		t.To, t.Open, t.Reply.Err = p.n, false, e
	}
	p.told = append(p.told, t)
}

func (p *plain) step(who int) {
	if p.d.Down() || !p.s.Ready(who) {
		return
	}
	r, done := p.s.Step(who)
	if !done || p.d.Down() {
		return
	}
	for i, t := range p.told {
		if t.Life == p.life && t.Who == who && t.Open {
			p.told[i].To, p.told[i].Open, p.told[i].Reply = p.n, false, r
		}
	}
}

func (p *plain) pages() ([]api.Version, api.Errno) {
	if p.s == nil {
		return nil, api.ErrHalted
	}
	var list []api.Version
	for no := range p.s.State().Master().Config.Pages {
		v, e := chain.At(p.s.State().Base().Cache(), uint16(no), p.s.Oracle().Last())
		if e != api.OK {
			return nil, e
		}
		list = append(list, v)
	}
	return list, api.OK
}

// anyEvent is an event, most often one that does something.
func anyEvent(x *rand.Rand, c api.Config, w *World) api.Event {
	odd := []int{math.MinInt, math.MaxInt, -1, -2, 0, 1, 10, 28, 29, 30, 63, 64, 65, 1 << 40, -1 << 40}
	e := api.Event{Kind: uint8(x.Intn(3)), A: x.Intn(12)}
	switch k := x.Intn(1000); {
	case k < 4:
		e.Kind = api.EFail
	case k < 6:
		e.Kind, e.A = api.EFuse, 1+x.Intn(60)
	case k < 60:
		e.Kind = api.EOpen
	case k < 63 || w.Disk().Down() && k < 300 || w.Store().Halted() && k < 100:
		e.Kind = api.ECrash
	case k < 73:
		e.Kind = 7 + uint8(x.Intn(249))
	}
	if x.Intn(25) == 0 {
		e.A = odd[x.Intn(len(odd))]
	}
	e.B = x.Intn(3)
	for range x.Intn(2) * x.Intn(40) {
		e.Keep = append(e.Keep, x.Intn(2) == 0)
	}
	e.Call = anyCall(x, c)
	if _, live := w.Store().Oracle().Start(w.begun[e.A]); !live && x.Intn(4) > 0 {
		e.Call.Kind = api.CBegin
	}
	return e
}

func anyCall(x *rand.Rand, c api.Config) api.Call {
	k := api.Call{Kind: []uint8{0, 0, 1, 1, 2, 2, 2, 2, 3, 3, 3, 4, 5, 6}[x.Intn(14)], Page: uint16(x.Intn(c.Pages))}
	k.S = []string{"", "ab", "xyz", whole(byte('a' + x.Intn(20)))}[x.Intn(4)]
	k.Off = x.Intn(65 - len(k.S))
	switch n := x.Intn(600); {
	case n == 0:
		k.Kind = api.CClose
	case n < 8:
		k.Kind = 8 + uint8(x.Intn(248))
	case n < 15:
		k.Page = uint16(x.Intn(20))
	case n < 22:
		k.Off = x.Intn(70) - 2
	case n < 60:
		k.Txn = uint64(x.Intn(9))
	}
	return k
}

func TestToldAnew(t *testing.T) { // P27.1, P27.2, P27.3
	answers := make(map[string]int)
	for seed := range int64(60) {
		x := rand.New(rand.NewSource(seed))
		c := api.Config{Pages: 1 + x.Intn(16), Undo: 1 + x.Intn(3)*x.Intn(4), Log: 64 + x.Intn(60), MaxTs: uint32(2 + x.Intn(3)*x.Intn(100))}
		frames := 4 + x.Intn(6)
		w, p := New(c, frames), plainNew(c, frames)
		for n := range 2000 {
			e := anyEvent(x, c, w)
			w.Do(e)
			p.do(e)
			if w.Life() != p.life || w.Disk().Ops() != p.d.Ops() || (w.Store() == nil) != (p.s == nil) {
				t.Fatalf("seed %d, %+v: Life %d, %d operations, want %d, %d", seed, e, w.Life(), w.Disk().Ops(), p.life, p.d.Ops())
			}
			if n%40 == 0 {
				got, e := w.Pages()
				want, f := p.pages()
				if e != f || !slices.Equal(got, want) {
					t.Fatalf("seed %d: Pages = %s, %d, want %s, %d", seed, briefly(got), e, briefly(want), f)
				}
			}
		}
		for i, got := range w.Told() {
			if got != p.told[i] {
				t.Fatalf("seed %d: told %s, want %s", seed, show(got), show(p.told[i]))
			}
			answers["Err "+strconv.Itoa(int(got.Reply.Err))]++
			if got.Open {
				answers["open"]++
			}
		}
		if len(w.Told()) != len(p.told) {
			t.Fatalf("seed %d: told %d, want %d", seed, len(w.Told()), len(p.told))
		}
		for i := range w.Disk().Size() {
			if w.Disk().Seen(i) != p.d.Seen(i) || w.Disk().Sure(i) != p.d.Sure(i) {
				t.Fatalf("seed %d: the block %d isn't as it should be", seed, i)
			}
		}
		answers["lives"] += w.Life()
	}
	for _, name := range []string{"lives", "open", "Err 0", "Err 1", "Err 3", "Err 5", "Err 7", "Err 8", "Err 9", "Err 10", "Err 11", "Err 12"} {
		if answers[name] < 5 {
			t.Errorf("%s: only %d times", name, answers[name])
		}
	}
}

func TestTheSameScript(t *testing.T) { // P27.4
	for seed := range int64(20) {
		x := rand.New(rand.NewSource(seed))
		c := api.Config{Pages: 1 + x.Intn(16), Undo: 1 + x.Intn(8), Log: 64 + x.Intn(60), MaxTs: 200}
		a, b := New(c, 5), New(c, 5)
		for range 600 {
			e := anyEvent(x, c, a)
			a.Do(e)
			b.Do(e)
		}
		if everything(a) != everything(b) {
			t.Errorf("seed %d: the same script comes to something else", seed)
		}
	}
}
