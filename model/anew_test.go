package model

import (
	"math/rand"
	"slices"
	"testing"

	"varve/api"
)

// plain is the chapter told anew: all calls that were answered with OK, and nothing else.
type plain struct {
	pages int
	max   uint32
	calls []api.Call
	told  []api.Reply
}

// find is where a transaction has begun, and whether it is live.
func (p *plain) find(txn uint64) (int, bool) {
	from, live := 0, false
	for i, c := range p.calls {
		if c.Kind == api.CBegin && p.told[i].Txn == txn {
			from, live = i, true
		}
		if (c.Kind == api.CCommit || c.Kind == api.CAbort) && c.Txn == txn {
			live = false
		}
	}
	return from, live
}

func (p *plain) count(want func(c api.Call, r api.Reply) bool) int {
	n := 0
	for i, c := range p.calls {
		if want(c, p.told[i]) {
			n++
		}
	}
	return n
}

// writes are the pages that a transaction has written.
func (p *plain) writes(txn uint64) []uint16 {
	var list []uint16
	for _, c := range p.calls {
		if c.Kind == api.CWrite && c.Txn == txn {
			list = append(list, c.Page)
		}
	}
	slices.Sort(list)
	return slices.Compact(list)
}

// last is how many commits there were of who had written.
func (p *plain) last() uint32 {
	return uint32(p.count(func(c api.Call, r api.Reply) bool {
		return c.Kind == api.CCommit && r.Err == api.OK && len(p.writes(c.Txn)) > 0
	}))
}

// at goes back from a timestamp to one that has a version of the page, and tells what was written by who had that one.
func (p *plain) at(page uint16, ts uint32) api.Version {
	for ; ts > 0; ts-- {
		for i, c := range p.calls {
			if c.Kind != api.CCommit || p.told[i] != (api.Reply{Ts: ts}) || !slices.Contains(p.writes(c.Txn), page) {
				continue
			}
			return api.Version{Ts: ts, Body: p.own(c.Txn, page)}
		}
	}
	return api.Version{}
}

// own is a page as a transaction sees it that has written it.
func (p *plain) own(txn uint64, page uint16) api.Body {
	from, _ := p.find(txn)
	body := p.at(page, p.told[from].Ts).Body
	for _, c := range p.calls {
		if c.Kind == api.CWrite && c.Txn == txn && c.Page == page {
			for i := range len(c.S) {
				body[c.Off+i] = c.S[i]
			}
		}
	}
	return body
}

func (p *plain) do(c api.Call) api.Reply {
	r := p.answer(c)
	ends := c.Kind == api.CCommit && r.Err != api.ErrTxn && r.Err != api.ErrHalted
	if r.Err == api.OK || ends {
		p.calls, p.told = append(p.calls, c), append(p.told, r)
	}
	return r
}

func (p *plain) answer(c api.Call) api.Reply {
	if p.count(func(c api.Call, _ api.Reply) bool { return c.Kind == api.CClose }) > 0 {
		return api.Reply{Err: api.ErrHalted}
	}
	if c.Kind > 7 {
		return api.Reply{Err: api.ErrArg}
	}
	if c.Kind == api.CBegin {
		return p.begin()
	}
	if c.Kind > api.CAbort {
		return api.Reply{}
	}
	if c.Kind <= api.CWrite && int(c.Page) >= p.pages {
		return api.Reply{Err: api.ErrArg}
	}
	if c.Kind == api.CWrite && (c.Off < 0 || c.Off > 64 || c.Off+len(c.S) > 64) {
		return api.Reply{Err: api.ErrArg}
	}
	from, live := p.find(c.Txn)
	if !live {
		return api.Reply{Err: api.ErrTxn}
	}
	return p.ofLive(c, p.told[from].Ts)
}

func (p *plain) begin() api.Reply {
	n := p.count(func(c api.Call, _ api.Reply) bool { return c.Kind == api.CBegin })
	live := 0
	for txn := 1; txn <= n; txn++ {
		if _, ok := p.find(uint64(txn)); ok {
			live++
		}
	}
	if live == 8 {
		return api.Reply{Err: api.ErrMany}
	}
	return api.Reply{Txn: uint64(n) + 1, Ts: p.last()}
}

func (p *plain) ofLive(c api.Call, start uint32) api.Reply {
	pages := p.writes(c.Txn)
	wrote := slices.Contains(pages, c.Page)
	switch {
	case c.Kind == api.CRead && wrote:
		return api.Reply{Ts: start, Body: p.own(c.Txn, c.Page)}
	case c.Kind == api.CRead:
		v := p.at(c.Page, start)
		return api.Reply{Ts: v.Ts, Body: v.Body}
	case c.Kind == api.CWrite && !wrote && len(pages) == 4:
		return api.Reply{Err: api.ErrMany}
	case c.Kind == api.CWrite || c.Kind == api.CAbort:
		return api.Reply{}
	case len(pages) == 0:
		return api.Reply{Ts: start}
	case p.last() == p.max:
		return api.Reply{Err: api.ErrTs}
	}
	for _, page := range pages {
		if p.at(page, p.last()).Ts > start {
			return api.Reply{Err: api.ErrConflict}
		}
	}
	return api.Reply{Ts: p.last() + 1}
}

// anyCall is a call that often is one of a transaction that is live.
func anyCall(x *rand.Rand, begun uint64) api.Call {
	c := api.Call{Kind: uint8(x.Intn(7)), Page: uint16(x.Intn(7)), Off: x.Intn(8), S: "abcdefgh"[:x.Intn(9)]}
	c.Txn = begun - uint64(x.Intn(9))
	if x.Intn(4) > 0 {
		c.Kind = []uint8{api.CBegin, api.CBegin, api.CRead, api.CWrite, api.CWrite, api.CWrite, api.CWrite, api.CCommit}[x.Intn(8)]
	}
	if x.Intn(20) == 0 {
		c.Off = x.Intn(70) - 1
	}
	if x.Intn(400) == 0 {
		c.Kind = 7 + uint8(x.Intn(2))
	}
	return c
}

func TestToldAnew(t *testing.T) { // P25.2, P25.3, P25.4, P25.5
	errs := make(map[api.Errno]int)
	for seed := range int64(150) {
		x := rand.New(rand.NewSource(seed))
		p := &plain{pages: 1 + x.Intn(6), max: uint32(x.Intn(25))}
		m := New(p.pages, p.max)
		for range 150 {
			c := anyCall(x, uint64(p.count(func(c api.Call, _ api.Reply) bool { return c.Kind == api.CBegin })))
			got, want := m.Do(c), p.do(c)
			errs[want.Err]++
			if got != want {
				t.Fatalf("seed %d: Do(%+v) = %+v, want %+v", seed, c, got, want)
			}
			page, ts := uint16(x.Intn(7)), uint32(x.Intn(30))
			if got, want := m.At(page, ts), p.at(page, ts); got != want || m.Last() != p.last() {
				t.Fatalf("seed %d: At(%d, %d) = %v, want %v", seed, page, ts, got, want)
			}
		}
	}
	for _, e := range []api.Errno{api.OK, api.ErrArg, api.ErrConflict, api.ErrTs, api.ErrTxn, api.ErrMany, api.ErrHalted} {
		if errs[e] < 40 {
			t.Errorf("%d was answered only %d times", e, errs[e])
		}
	}
}
