package rec

import (
	"varve/api"
	"varve/word"
)

// reader takes a record's fields one behind the other. It gives up by a
// panic where none of them stands, so that no field has to hand that on.
type reader struct {
	text string
	at   int
}

// taken is the record that a reader's text is; a reader that gave up ends here.
func taken(in *reader) (r api.Rec, e api.Errno) {
	defer func() {
		// What isn't an Errno was no giving up: the assertion passes that on.
		if why := recover(); why != nil {
			r, e = api.Rec{}, why.(api.Errno)
		}
	}()
	r = in.rec()
	in.must(in.at == len(in.text))
	return r, api.OK
}

// must gives up, unless there may be a record up to here.
func (in *reader) must(ok bool) {
	if !ok {
		panic(api.ErrForm)
	}
}

// rec takes a record.
func (in *reader) rec() api.Rec {
	r := api.Rec{Kind: uint8(in.number(kindLen))}
	switch r.Kind {
	case api.RImage:
		r.Page.Undo = in.flag()
		r.Page.No = uint16(in.number(noLen))
		r.Image = in.image()
	case api.RData:
		r.Page.No = uint16(in.number(noLen))
		r.Ts = uint32(in.number(tsLen))
		r.Prev = in.ref()
		r.Delta = in.sized(api.MaxDelta)
	case api.RAdd, api.RFree, api.RCut:
		r.Page = api.PageID{Undo: true, No: uint16(in.number(noLen))}
		r.Slot = uint8(in.number(slotLen))
	case api.RCommit:
		r.Ts = uint32(in.number(tsLen))
	default:
		in.must(false)
	}
	if r.Kind == api.RAdd {
		r.Old = in.old()
	}
	return r
}

// number takes a number of n bytes.
func (in *reader) number(n int) uint64 {
	v, ok := word.Get(in.text, in.at, n)
	in.must(ok)
	in.at += n
	return v
}

// flag takes a bool.
func (in *reader) flag() bool {
	v := in.number(flagLen)
	in.must(v <= 1)
	return v == 1
}

// sized takes a text of at most so many bytes, and the length ahead of it.
func (in *reader) sized(most int) string {
	n := int(in.number(sizeLen))
	in.must(n <= most && n <= len(in.text)-in.at)
	from := in.at
	in.at += n
	return in.text[from:in.at]
}

// ref takes a Ref.
func (in *reader) ref() api.Ref {
	no := uint16(in.number(noLen))
	return api.Ref{Page: no, Slot: uint8(in.number(slotLen))}
}

// old takes a Live Old.
func (in *reader) old() api.Old {
	o := api.Old{Live: true}
	o.Page = uint16(in.number(noLen))
	o.Ts = uint32(in.number(tsLen))
	o.Next = in.ref()
	o.Delta = in.sized(api.MaxDelta)
	return o
}

// image takes a payload up to its last byte that isn't 0.
func (in *reader) image() api.Payload {
	text := in.sized(api.PayloadSize)
	// Noughts at an image's end aren't told: a text that ends with one is no record's.
	in.must(text == "" || text[len(text)-1] != 0)
	var p api.Payload
	copy(p[:], text)
	return p
}
