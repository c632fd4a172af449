package tale

import (
	"slices"
	"strconv"
	"strings"

	"varve/api"
)

// letters are what the halves of bytes are written with.
const letters = "0123456789abcdef"

// none is what nothing is written as, where there could be something.
const none = "-"

// eventNames are the first words of the events' lines, by their kinds.
func eventNames() []string {
	return []string{
		api.EAsk:   "ask",
		api.EStep:  "step",
		api.ERound: "round",
		api.EFuse:  "fuse",
		api.EFail:  "fail",
		api.ECrash: "crash",
		api.EOpen:  "open",
	}
}

// callNames are the calls' words, by their kinds.
func callNames() []string {
	return []string{
		api.CBegin:      "begin",
		api.CRead:       "read",
		api.CWrite:      "write",
		api.CCommit:     "commit",
		api.CAbort:      "abort",
		api.CVacuum:     "vacuum",
		api.CCheckpoint: "checkpoint",
		api.CClose:      "close",
	}
}

// nameOf is the word of a kind, or, if that is none, the other one.
func nameOf(names []string, kind uint8, other string) string {
	if int(kind) < len(names) {
		return names[kind]
	}
	return other
}

// Tell is a line that tells of a call.
func Tell(t api.Told) string {
	asked := words(low(t.Life), low(t.Who), nameOf(callNames(), t.Call.Kind, "call"), low(t.From))
	if t.Open {
		return words(asked, "open")
	}
	r := t.Reply
	answered := words(asked, low(t.To), low(int(r.Err)), number(r.Txn), number(uint64(r.Ts)))
	if r.Body == (api.Body{}) {
		return answered
	}
	return words(answered, bytesOf(strings.TrimRight(string(r.Body[:]), "\x00")))
}

// lineOf is an event's line, if it has one: just that from which the event is read again as it is. So nothing is
// left out that the line doesn't tell, and what may be told is said in one place, where it is read.
func lineOf(e api.Event) (string, bool) {
	// Ahead of all: these are the only fields that may be of any length.
	if len(e.Call.S) > api.BodySize || len(e.Keep) > maxKeep {
		return "", false
	}
	line := lineAs(e)
	again, ok := eventOf(line)
	return line, ok && same(again, e)
}

// lineAs is the line that an event would have by its kind.
func lineAs(e api.Event) string {
	name := nameOf(eventNames(), e.Kind, none)
	switch e.Kind {
	case api.EAsk:
		return words(name, strconv.Itoa(e.A), callAs(e.Call))
	case api.ECrash:
		return words(name, digits(e.Keep))
	}
	return words(name, strconv.Itoa(e.A))
}

// callAs is the words that a call would have by its kind.
func callAs(c api.Call) string {
	name := nameOf(callNames(), c.Kind, none)
	switch c.Kind {
	case api.CRead:
		return words(name, number(c.Txn), number(uint64(c.Page)))
	case api.CWrite:
		return words(name, number(c.Txn), number(uint64(c.Page)), strconv.Itoa(c.Off), bytesOf(c.S))
	case api.CCommit, api.CAbort:
		return words(name, number(c.Txn))
	}
	return name
}

// same tells whether two events are one.
func same(a, b api.Event) bool {
	return a.Kind == b.Kind && a.A == b.A && a.B == b.B && a.Call == b.Call && slices.Equal(a.Keep, b.Keep)
}

// words puts words together.
func words(list ...string) string {
	return strings.Join(list, " ")
}

// number is a number in digits.
func number(n uint64) string {
	return strconv.FormatUint(n, 10)
}

// low is the lowest 32 bits of a number, in digits.
func low(n int) string {
	return number(uint64(uint32(n)))
}

// bytesOf is a text, two letters a byte.
func bytesOf(s string) string {
	if s == "" {
		return none
	}
	var out strings.Builder
	for i := range len(s) {
		out.WriteByte(letters[s[i]>>4])
		out.WriteByte(letters[s[i]&15])
	}
	return out.String()
}

// digits is what is kept, a digit each.
func digits(keep []bool) string {
	if len(keep) == 0 {
		return none
	}
	var out strings.Builder
	for _, is := range keep {
		if is {
			out.WriteByte('1')
		} else {
			out.WriteByte('0')
		}
	}
	return out.String()
}
