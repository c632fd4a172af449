package world

import (
	"varve/api"
	"varve/store"
)

const (
	maxRounds = 64                                // of one event
	frameRoom = api.MaxFrames - api.MinFrames + 1 // how many numbers of frames there may be
)

// Do lets an event happen.
func (w *World) Do(e api.Event) {
	if w == nil {
		return
	}
	w.events++
	if w.disk.Down() && e.Kind != api.ECrash {
		return
	}
	switch e.Kind {
	case api.EAsk:
		w.ask(e.A, e.Call)
	case api.EStep:
		w.stepOf(uint(e.A))
	case api.ERound:
		for range min(max(e.A, 0), maxRounds) {
			w.round()
		}
	case api.EFuse:
		w.disk.Plan(nil, e.A)
	case api.EFail:
		w.disk.Plan([]int{e.A}, 0)
	case api.ECrash:
		w.crash(e.Keep)
	case api.EOpen:
		w.open(e.A)
	}
}

// ask lets somebody ask, and tells of it.
func (w *World) ask(who int, c api.Call) {
	if w.store == nil {
		return
	}
	if c.Txn == 0 {
		c.Txn = w.begun[who] // 0 of who is no client, too: nothing of theirs is ever begun
	}
	t := api.Told{Who: who, Call: c, Life: w.life, From: w.events}
	if e := w.store.Ask(who, c); e != api.OK {
		t.To, t.Reply.Err = t.From, e
	} else {
		t.Open = true
		w.under[who] = len(w.told)
	}
	w.told = append(w.told, t)
}

// stepOf goes a step on with one of those who can.
func (w *World) stepOf(place uint) {
	var ready []int
	for who := range api.MaxClients {
		if w.store.Ready(who) {
			ready = append(ready, who)
		}
	}
	if len(ready) > 0 {
		w.step(ready[place%uint(len(ready))])
	}
}

// round goes a step on with each who can when they have their turn: one's step may let another one go on.
func (w *World) round() {
	for who := range api.MaxClients {
		w.step(who)
	}
}

// step goes a step on with somebody's call.
func (w *World) step(who int) {
	if w.disk.Down() || !w.store.Ready(who) {
		return
	}
	r, done := w.store.Step(who)
	if !done {
		return
	}
	at, asked := w.under[who] // not asked, if it was asked of the store itself
	delete(w.under, who)
	// An answer that comes when the power is gone reaches nobody.
	if asked && !w.disk.Down() {
		w.answer(at, r)
	}
}

// answer tells what was answered.
func (w *World) answer(at int, r api.Reply) {
	t := &w.told[at]
	t.Open, t.To, t.Reply = false, w.events, r
	if t.Call.Kind == api.CBegin && r.Err == api.OK {
		w.begun[t.Who] = r.Txn
	}
}

// crash lets the power go and come again.
func (w *World) crash(keep []bool) {
	w.disk.Crash(keep)
	w.store = nil
	clear(w.begun)
	clear(w.under)
}

// open opens the store, if it isn't.
func (w *World) open(a int) {
	if w.store != nil {
		return
	}
	frames := w.frames
	if a > 0 {
		frames = api.MinFrames + a%frameRoom
	}
	s, e := store.Open(w.disk, frames)
	if e != api.OK {
		return
	}
	w.store = s
	w.life++
}
