package hist

import (
	"math/rand"
	"slices"
	"testing"

	"varve/api"
	"varve/model"
)

func begun(life int, txn uint64, start uint32) api.Told {
	return api.Told{Call: api.Call{Kind: api.CBegin}, Life: life, Reply: api.Reply{Txn: txn, Ts: start}}
}

func told(life int, kind uint8, txn uint64, page uint16, ts uint32) api.Told {
	return api.Told{Call: api.Call{Kind: kind, Txn: txn, Page: page}, Life: life, Reply: api.Reply{Ts: ts}}
}

func open(t api.Told) api.Told {
	t.Open = true
	return t
}

func failed(t api.Told, e api.Errno) api.Told {
	t.Reply.Err = e
	return t
}

func wantOf(t *testing.T, name string, list []api.Told, want ...api.Past) {
	t.Helper()
	if got := Of(list); !same(got, want) {
		t.Errorf("%s: Of = %+v, want %+v", name, got, want)
	}
}

func TestOf(t *testing.T) { // P26.2
	wantOf(t, "nothing", nil)
	wantOf(t, "one that has begun", []api.Told{begun(0, 1, 5)}, api.Past{Start: 5})
	wantOf(t, "reads and writes", []api.Told{
		begun(0, 1, 5),
		told(0, api.CRead, 1, 3, 4), told(0, api.CRead, 1, 2, 0), told(0, api.CRead, 1, 3, 4),
		told(0, api.CWrite, 1, 3, 0), told(0, api.CWrite, 1, 1, 0), told(0, api.CWrite, 1, 3, 0),
		told(0, api.CRead, 1, 3, 5), told(0, api.CRead, 1, 1, 5), told(0, api.CRead, 1, 2, 0), // two of these were written
		told(0, api.CCommit, 1, 0, 7),
	}, api.Past{Start: 5, Commit: 7, Done: true, Reads: []api.Seen{at(3, 4), at(2, 0), at(3, 4), at(2, 0)}, Writes: []uint16{3, 1}})
	wantOf(t, "a commit without writes", []api.Told{begun(0, 1, 5), told(0, api.CRead, 1, 3, 4), told(0, api.CCommit, 1, 0, 5)},
		api.Past{Start: 5, Done: true, Reads: []api.Seen{at(3, 4)}})
	wantOf(t, "given up", []api.Told{begun(0, 1, 5), told(0, api.CWrite, 1, 3, 0), told(0, api.CAbort, 1, 0, 0)},
		api.Past{Start: 5, Writes: []uint16{3}})
}

func TestOfWhatCountsForNothing(t *testing.T) { // P26.2
	wantOf(t, "a begin that is Open, or has an Err", []api.Told{open(begun(0, 1, 5)), failed(begun(0, 1, 5), api.ErrMany), told(0, api.CRead, 1, 2, 3)})
	wantOf(t, "calls that are Open, or have an Err", []api.Told{
		begun(0, 1, 5),
		open(told(0, api.CRead, 1, 1, 3)), failed(told(0, api.CRead, 1, 1, 3), api.ErrIO),
		open(told(0, api.CWrite, 1, 1, 0)), failed(told(0, api.CWrite, 1, 1, 0), api.ErrMany),
		told(0, api.CRead, 1, 1, 4), told(0, api.CWrite, 1, 2, 0),
		open(told(0, api.CCommit, 1, 0, 9)), failed(told(0, api.CCommit, 1, 0, 9), api.ErrConflict),
	}, api.Past{Start: 5, Reads: []api.Seen{at(1, 4)}, Writes: []uint16{2}})
	wantOf(t, "both", []api.Told{begun(0, 1, 5), open(failed(told(0, api.CCommit, 1, 0, 9), api.ErrHalted))}, api.Past{Start: 5})
	var rest []api.Told
	for kind := int(api.CAbort); kind < 256; kind++ {
		rest = append(rest, told(0, uint8(kind), 1, 3, 9))
	}
	wantOf(t, "other kinds", append([]api.Told{begun(0, 1, 5)}, rest...), api.Past{Start: 5})
	wantOf(t, "who has not begun", []api.Told{
		told(0, api.CRead, 1, 3, 4), told(0, api.CCommit, 1, 3, 4), told(0, api.CRead, 0, 3, 4),
		begun(0, 1, 5),
		told(0, api.CRead, 2, 3, 4), told(1, api.CRead, 1, 3, 4), told(-1, api.CWrite, 1, 3, 4), told(0, api.CCommit, 2, 3, 4), told(1, api.CCommit, 1, 0, 9),
	}, api.Past{Start: 5})
	begin := begun(0, 1, 5)
	begin.Call.Txn, begin.Call.Page = 7, 3 // the Reply tells which one it is
	wantOf(t, "what was asked of a begin", []api.Told{begin, told(0, api.CRead, 7, 3, 4), told(0, api.CRead, 1, 2, 4)},
		api.Past{Start: 5, Reads: []api.Seen{at(2, 4)}})
	read := told(0, api.CRead, 1, 3, 4)
	read.Reply.Txn = 9 // of the others it is what was asked
	wantOf(t, "what was answered to a read", []api.Told{begun(0, 1, 5), begun(0, 9, 6), read}, api.Past{Start: 5, Reads: []api.Seen{at(3, 4)}}, api.Past{Start: 6})
}

func TestOfSeveral(t *testing.T) { // P26.2
	wantOf(t, "lives and numbers", []api.Told{
		begun(0, 2, 5), begun(0, 1, 6), begun(1, 1, 7), begun(1, 0, 8), begun(-3, 1, 9),
		told(1, api.CRead, 1, 10, 1), told(0, api.CRead, 1, 11, 2), told(-3, api.CRead, 1, 12, 3), told(0, api.CRead, 2, 13, 4), told(1, api.CRead, 0, 14, 5),
		told(0, api.CWrite, 1, 20, 0), told(1, api.CWrite, 1, 20, 0), told(1, api.CCommit, 1, 0, 33), told(0, api.CCommit, 1, 0, 44),
	},
		api.Past{Start: 5, Reads: []api.Seen{at(13, 4)}},
		api.Past{Start: 6, Commit: 44, Done: true, Reads: []api.Seen{at(11, 2)}, Writes: []uint16{20}},
		api.Past{Start: 7, Commit: 33, Done: true, Reads: []api.Seen{at(10, 1)}, Writes: []uint16{20}},
		api.Past{Start: 8, Reads: []api.Seen{at(14, 5)}},
		api.Past{Start: 9, Reads: []api.Seen{at(12, 3)}})
	wantOf(t, "one that begins twice", []api.Told{
		begun(0, 1, 5), told(0, api.CWrite, 1, 3, 0), begun(0, 1, 6), told(0, api.CRead, 1, 3, 4), told(0, api.CCommit, 1, 0, 6),
	}, api.Past{Start: 5, Writes: []uint16{3}}, api.Past{Start: 6, Done: true, Reads: []api.Seen{at(3, 4)}})
	wantOf(t, "what is told behind a commit", []api.Told{
		begun(0, 1, 5), told(0, api.CCommit, 1, 0, 5), told(0, api.CWrite, 1, 3, 0), told(0, api.CRead, 1, 3, 4), told(0, api.CRead, 1, 2, 4), told(0, api.CCommit, 1, 0, 8),
	}, api.Past{Start: 5, Commit: 8, Done: true, Reads: []api.Seen{at(2, 4)}, Writes: []uint16{3}})
}

func TestOfIsNew(t *testing.T) { // rule 4
	list := []api.Told{begun(0, 1, 5), begun(0, 2, 5), told(0, api.CRead, 1, 3, 4), told(0, api.CRead, 2, 3, 4), told(0, api.CWrite, 1, 4, 0), told(0, api.CWrite, 2, 4, 0)}
	kept := slices.Clone(list)
	got := Of(list)
	got[0].Reads[0], got[0].Writes[0] = at(9, 9), 9
	_ = append(got[0].Reads, at(8, 8))
	want := api.Past{Start: 5, Reads: []api.Seen{at(3, 4)}, Writes: []uint16{4}}
	if !same(got[1:], []api.Past{want}) || !slices.Equal(list, kept) {
		t.Errorf("a change of one is one of another: %+v", got)
	}
	wantOf(t, "once more", list, want, want)
}

// plainOf goes through all that was told once for each transaction.
func plainOf(list []api.Told) []api.Past {
	ok := func(x api.Told) bool { return !x.Open && x.Reply.Err == api.OK }
	var all []api.Past
	for i, b := range list {
		if !ok(b) || b.Call.Kind != api.CBegin {
			continue
		}
		p := api.Past{Start: b.Reply.Ts}
		for _, x := range list[i+1:] {
			if !ok(x) || x.Life != b.Life {
				continue
			}
			if x.Call.Kind == api.CBegin && x.Reply.Txn == b.Reply.Txn {
				break
			}
			if x.Call.Kind == api.CBegin || x.Call.Txn != b.Reply.Txn {
				continue
			}
			in := slices.Contains(p.Writes, x.Call.Page)
			if x.Call.Kind == api.CRead && !in {
				p.Reads = append(p.Reads, at(x.Call.Page, x.Reply.Ts))
			}
			if x.Call.Kind == api.CWrite && !in {
				p.Writes = append(p.Writes, x.Call.Page)
			}
			if x.Call.Kind == api.CCommit {
				p.Done = true
				if len(p.Writes) > 0 {
					p.Commit = x.Reply.Ts
				}
			}
		}
		all = append(all, p)
	}
	return all
}

func TestOfToldAnew(t *testing.T) { // P26.2
	for seed := range int64(2000) {
		x := rand.New(rand.NewSource(seed))
		var list []api.Told
		for range x.Intn(40) {
			y := told(x.Intn(2), uint8(x.Intn(6)), uint64(x.Intn(3)), uint16(x.Intn(3)), uint32(x.Intn(9)))
			y.Reply.Txn, y.Open, y.Reply.Err = uint64(x.Intn(3)), x.Intn(9) == 0, api.Errno(x.Intn(2)*x.Intn(2)*x.Intn(13))
			list = append(list, y)
		}
		if got, want := Of(list), plainOf(list); !same(got, want) {
			t.Fatalf("seed %d: Of = %+v, want %+v", seed, got, want)
		}
	}
}

func TestMachineShowsNothing(t *testing.T) { // P26.3, P25.5
	done := 0
	for seed := range int64(150) {
		x := rand.New(rand.NewSource(seed))
		m := model.New(1+x.Intn(5), 1000)
		var list []api.Told
		n := uint64(0)
		for range 200 {
			c := api.Call{Kind: []uint8{0, 1, 1, 1, 2, 2, 3, 4}[x.Intn(8)], Txn: n - uint64(x.Intn(8)), Page: uint16(x.Intn(5)), S: "x"}
			r := m.Do(c)
			n = max(n, r.Txn)
			list = append(list, api.Told{Call: c, Reply: r})
		}
		l := Of(list)
		for _, p := range l {
			if p.Done {
				done++
			}
		}
		if got, e := Check(l); got != 0 || e != api.OK {
			t.Fatalf("seed %d: Check = %d, %d", seed, got, e)
		}
	}
	if done < 1000 {
		t.Errorf("only %d were committed", done)
	}
}
