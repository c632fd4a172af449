package page

import (
	"varve/api"
	"varve/word"
)

// reader takes a payload's fields one behind the other. What isn't there is 0
// or empty: who asked holds what came of it against the payload.
type reader struct {
	text string
	at   int
}

// number takes a number of n bytes.
func (r *reader) number(n int) uint64 {
	v, _ := word.Get(r.text, r.at, n)
	r.at += n
	return v
}

// bytes takes n bytes.
func (r *reader) bytes(n int) string {
	from := min(r.at, len(r.text))
	r.at += n
	return r.text[from:min(r.at, len(r.text))]
}

// ref takes a Ref.
func (r *reader) ref() api.Ref {
	no := uint16(r.number(2))
	return api.Ref{Page: no, Slot: uint8(r.number(1))}
}

// old takes an Old.
func (r *reader) old() api.Old {
	if r.number(1) == 0 {
		return api.Old{}
	}
	o := api.Old{Live: true}
	o.Page = uint16(r.number(2))
	o.Ts = uint32(r.number(4))
	o.Next = r.ref()
	o.Delta = r.bytes(int(r.number(1)))
	return o
}
