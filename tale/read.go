package tale

import (
	"math"
	"slices"
	"strings"

	"varve/api"
)

// reader takes the words of a line, one behind the other. Once it is bad, what it has answered counts for nothing.
type reader struct {
	words []string
	bad   bool
}

// eventOf is the event whose line it is, if it is one.
func eventOf(line string) (api.Event, bool) {
	r := &reader{words: strings.Split(line, " ")}
	e := r.event()
	if r.bad || len(r.words) > 0 {
		return api.Event{}, false
	}
	return e, true
}

// event takes an event.
func (r *reader) event() api.Event {
	e := api.Event{Kind: r.kind(eventNames())}
	switch e.Kind {
	case api.EAsk:
		e.A = int(r.number(api.MaxClients - 1))
		e.Call = r.call()
	case api.ECrash:
		e.Keep = r.keep()
	default:
		e.A = int(r.number(maxNumber))
	}
	return e
}

// call takes a call.
func (r *reader) call() api.Call {
	c := api.Call{Kind: r.kind(callNames())}
	switch c.Kind {
	case api.CRead, api.CWrite:
		c.Txn = r.number(maxNumber)
		c.Page = uint16(r.number(math.MaxUint16))
		if c.Kind == api.CWrite {
			c.Off = int(r.number(maxNumber))
			c.S = r.bytes()
		}
	case api.CCommit, api.CAbort:
		c.Txn = r.number(maxNumber)
	}
	return c
}

// word takes a word.
func (r *reader) word() string {
	if len(r.words) == 0 {
		r.bad = true
		return ""
	}
	w := r.words[0]
	r.words = r.words[1:]
	return w
}

// kind takes a word that is a kind's name.
func (r *reader) kind(names []string) uint8 {
	at := slices.Index(names, r.word())
	r.must(at >= 0)
	return uint8(max(at, 0))
}

// number takes a number up to a limit, which is none of more than ten digits.
func (r *reader) number(limit uint64) uint64 {
	w := r.word()
	r.must(w != "" && len(w) <= 10 && (w == "0" || w[0] != '0'))
	var n uint64
	for _, c := range w {
		r.must(c >= '0' && c <= '9')
		n = n*10 + uint64(c-'0')
	}
	r.must(n <= limit)
	return n
}

// bytes takes bytes.
func (r *reader) bytes() string {
	w := r.word()
	if w == none {
		return ""
	}
	r.must(w != "" && len(w)%2 == 0 && len(w) <= 2*api.BodySize)
	var list []byte
	high := 0
	for i, c := range w {
		half := strings.IndexRune(letters, c)
		r.must(half >= 0)
		if i%2 == 0 {
			high = half
		} else {
			list = append(list, byte(high<<4|half))
		}
	}
	return string(list)
}

// keep takes what is kept.
func (r *reader) keep() []bool {
	w := r.word()
	if w == none {
		return nil
	}
	r.must(w != "" && len(w) <= maxKeep)
	var list []bool
	for _, c := range w {
		r.must(c == '0' || c == '1')
		list = append(list, c == '1')
	}
	return list
}

// must makes the reader bad, unless it is so.
func (r *reader) must(so bool) {
	r.bad = r.bad || !so
}
