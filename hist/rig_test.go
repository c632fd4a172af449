package hist

import (
	"testing"

	"varve/api"
)

// wrote is a transaction that was committed, with the pages that it has written.
func wrote(start, commit uint32, pages ...uint16) api.Past {
	return api.Past{Start: start, Commit: commit, Done: true, Writes: pages}
}

// reader is a transaction that was committed, and has written nothing.
func reader(start uint32, reads ...api.Seen) api.Past {
	return api.Past{Start: start, Done: true, Reads: reads}
}

// reading is a transaction that has read, too.
func reading(p api.Past, reads ...api.Seen) api.Past {
	p.Reads = reads
	return p
}

// undone is a transaction that wasn't committed.
func undone(p api.Past) api.Past {
	p.Done = false
	return p
}

func at(page uint16, ts uint32) api.Seen { return api.Seen{Page: page, Ts: ts} }

// wantShown fails unless a history shows that, in which order ever its transactions stand.
func wantShown(t *testing.T, name string, want uint8, l ...api.Past) {
	t.Helper()
	for turn := range max(len(l), 1) {
		for _, list := range [][]api.Past{turned(l, turn), backwards(turned(l, turn))} {
			if got, e := Check(list); got != want || e != api.OK {
				t.Errorf("%s: Check(%v) = %d, %d, want %d", name, list, got, e, want)
				return
			}
		}
	}
}

func wantNone(t *testing.T, name string, l ...api.Past) {
	t.Helper()
	for _, list := range [][]api.Past{l, backwards(l)} {
		if got, e := Check(list); got != 0 || e != api.ErrArg {
			t.Errorf("%s: Check = %d, %d, want 0, %d", name, got, e, api.ErrArg)
		}
	}
}

// turned is a list from another one of its places on.
func turned(l []api.Past, by int) []api.Past {
	return append(append([]api.Past{}, l[by:]...), l[:by]...)
}

func backwards(l []api.Past) []api.Past {
	var list []api.Past
	for i := range l {
		list = append(list, l[len(l)-1-i])
	}
	return list
}
