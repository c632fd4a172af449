package hist

import (
	"math"
	"slices"
	"testing"

	"varve/api"
)

func TestExamples(t *testing.T) { // P26.1
	wantShown(t, "two that write one page", api.Interfering, wrote(0, 1, 3), wrote(0, 2, 3))
	wantShown(t, "what was committed isn't read", api.Missed, wrote(0, 1, 3), reader(1, at(3, 0)))
	wantShown(t, "nobody has committed it", api.Aborted, reader(5, at(3, 5)))
}

func TestNoHistory(t *testing.T) { // P26.1
	wantNone(t, "the Commit is the Start", wrote(1, 1, 3))
	wantNone(t, "it is 0", wrote(0, 0, 3))
	wantNone(t, "it is below the Start", wrote(5, 4, 3))
	wantNone(t, "the greatest Start", wrote(math.MaxUint32, math.MaxUint32, 3), wrote(0, 1, 3))
	wantNone(t, "two have one Commit", wrote(0, 2, 3), wrote(1, 2, 4))
	wantNone(t, "three, two of which have one", wrote(0, 2, 3), wrote(1, 3, 4), wrote(2, 3, 5))
	wantNone(t, "beside what is shown", wrote(0, 2, 3), wrote(1, 2, 4), reader(5, at(3, 5)))
}

func TestHistoryThoughItLooksAlike(t *testing.T) { // P26.1
	wantShown(t, "no transactions", 0)
	if got, e := Check(nil); got != 0 || e != api.OK {
		t.Errorf("Check(nil) = %d, %d", got, e)
	}
	wantShown(t, "not Done", 0, undone(wrote(1, 1, 3)), undone(wrote(5, 4, 3)))
	wantShown(t, "not Done, the Commit of another one", 0, wrote(0, 1, 3), undone(wrote(0, 1, 4)), undone(wrote(0, 1, 3)))
	wantShown(t, "no Writes", 0, api.Past{Start: 5, Commit: 5, Done: true}, api.Past{Start: 5, Commit: 4, Done: true})
	wantShown(t, "no Writes, the Commit of another one", 0, wrote(0, 1, 3), api.Past{Start: 0, Commit: 1, Done: true})
	wantShown(t, "an empty list of Writes", 0, wrote(0, 1, 3), api.Past{Commit: 1, Done: true, Writes: []uint16{}})
	wantShown(t, "the greatest Commit", 0, wrote(math.MaxUint32-1, math.MaxUint32, 3))
	wantShown(t, "a page twice in Writes", 0, wrote(0, 1, 3, 3))
}

func TestNothingIsShown(t *testing.T) { // P26.1
	wantShown(t, "one", 0, wrote(0, 1, 3))
	wantShown(t, "one behind the other", 0, wrote(0, 1, 3), wrote(1, 2, 3), wrote(2, 3, 3))
	wantShown(t, "other pages side by side", 0, wrote(0, 1, 3), wrote(0, 2, 4), wrote(0, 3, 5))
	wantShown(t, "what was there at the start", 0, wrote(0, 1, 3), wrote(1, 2, 3), reader(0, at(3, 0)), reader(1, at(3, 1)), reader(2, at(3, 2)))
	// each of two reads what the other one writes: that isn't ruled out
	wantShown(t, "both are passed by each other", 0,
		reading(wrote(0, 1, 3), at(4, 0)), reading(wrote(0, 2, 4), at(3, 0)))
	wantShown(t, "a start between", 0, wrote(0, 1, 3), wrote(1, 4, 3), reading(wrote(2, 5, 4), at(3, 1)))
}

func TestAborted(t *testing.T) { // P26.1
	wantShown(t, "of another page", api.Aborted, wrote(0, 1, 3), reader(1, at(4, 1)))
	wantShown(t, "of another time", api.Aborted, wrote(0, 1, 3), wrote(1, 3, 3), reader(3, at(3, 2)))
	wantShown(t, "of one that isn't Done", api.Aborted, undone(wrote(0, 1, 3)), reader(1, at(3, 1)))
	wantShown(t, "of one that has written other pages", api.Aborted, wrote(0, 1, 4, 5), reader(1, at(3, 1)))
	wantShown(t, "by a writer", api.Aborted, reading(wrote(0, 1, 4), at(3, 1)))
	wantShown(t, "the last one of its Reads", api.Aborted, reader(1, at(0, 0), at(1, 0), at(2, 0), at(3, 9)))
	wantShown(t, "by one that isn't Done: it counts for nothing", 0, undone(reader(5, at(3, 5))))
	wantShown(t, "the first version", 0, reader(5, at(3, 0)))
	wantShown(t, "one's own version", 0, reading(wrote(0, 1, 3), at(3, 1)))
	wantShown(t, "nobody is passed by who has committed behind it", api.Aborted, wrote(0, 9, 3), reader(9, at(3, 5)))
	wantShown(t, "of a Commit that counts for nothing", api.Aborted, api.Past{Commit: 5, Done: true}, reader(5, at(3, 5)))
}

func TestInterfering(t *testing.T) { // P26.1
	wantShown(t, "who isn't ahead was read", api.Interfering, wrote(0, 5, 3), reader(4, at(3, 5)))
	wantShown(t, "who is just ahead was read", 0, wrote(0, 5, 3), reader(5, at(3, 5)))
	wantShown(t, "who is just ahead was written over", 0, wrote(0, 5, 3), wrote(5, 6, 3))
	wantShown(t, "who isn't ahead was written over", api.Interfering, wrote(0, 5, 3), wrote(4, 6, 3))
	wantShown(t, "the same with a version between", 0, wrote(0, 1, 3), wrote(1, 2, 3), wrote(2, 7, 3))
	wantShown(t, "not the next one, but the one behind", api.Interfering, wrote(0, 1, 3), wrote(1, 5, 3), wrote(4, 6, 3))
	wantShown(t, "of other pages", 0, wrote(0, 5, 3), wrote(4, 6, 2))
	wantShown(t, "one of several pages", api.Interfering, wrote(0, 5, 1, 3), wrote(4, 6, 2, 3))
	wantShown(t, "one of these isn't Done", 0, undone(wrote(0, 5, 3)), wrote(4, 6, 3))
	wantShown(t, "the other one isn't", 0, wrote(0, 5, 3), undone(wrote(4, 6, 3)))
	wantShown(t, "one's own version", 0, reading(wrote(0, 5, 3), at(3, 5), at(3, 5)))
	wantShown(t, "pages that stand there twice", api.Interfering, wrote(0, 5, 3, 3), reader(4, at(3, 5), at(3, 5)))
	wantShown(t, "a page twice is no version behind itself", 0, wrote(0, 5, 3, 3), wrote(5, 6, 3, 3))
}

func TestCircle(t *testing.T) { // P26.1
	// a circle has somebody who depends on one who isn't ahead of them
	wantShown(t, "two have read each other", api.Circle|api.Interfering,
		reading(wrote(0, 1, 3), at(4, 2)), reading(wrote(0, 2, 4), at(3, 1)))
	wantShown(t, "one is ahead", api.Circle|api.Interfering,
		reading(wrote(0, 1, 3), at(4, 2)), reading(wrote(1, 2, 4), at(3, 1)))
	wantShown(t, "one read, and was written over", api.Circle|api.Interfering,
		reading(wrote(0, 1, 3), at(4, 2)), wrote(1, 2, 3, 4))
	wantShown(t, "three", api.Circle|api.Interfering,
		reading(wrote(0, 1, 3), at(5, 3)), reading(wrote(1, 2, 4), at(3, 1)), reading(wrote(2, 3, 5), at(4, 2)))
	wantShown(t, "three, one of which isn't Done", api.Aborted,
		reading(wrote(0, 1, 3), at(5, 3)), reading(wrote(1, 2, 4), at(3, 1)), undone(reading(wrote(2, 3, 5), at(4, 2))))
	wantShown(t, "one who stands behind the circle", api.Circle|api.Interfering,
		reading(wrote(0, 1, 3), at(4, 2)), reading(wrote(1, 2, 4), at(3, 1)), reader(2, at(3, 1), at(4, 2)))
	wantShown(t, "one who stands ahead of it", api.Circle|api.Interfering,
		wrote(0, 1, 7), reading(wrote(1, 2, 3), at(4, 3), at(7, 1)), reading(wrote(2, 3, 4), at(3, 2)))
	wantShown(t, "two ways to one are no circle", 0,
		wrote(0, 1, 3, 4), reading(wrote(1, 2, 3), at(4, 1)), reading(wrote(1, 3, 4), at(3, 1)), reader(3, at(3, 2), at(4, 3)))
	wantShown(t, "one's own version is none", 0, reading(wrote(0, 1, 3), at(3, 1)))
	wantShown(t, "being passed is none", 0, reading(wrote(0, 1, 3), at(4, 0)), reading(wrote(0, 2, 4), at(3, 0)))
}

func TestMissed(t *testing.T) { // P26.1
	wantShown(t, "who passes ends at the start", api.Missed, wrote(0, 5, 3), reader(5, at(3, 0)))
	wantShown(t, "behind the start", 0, wrote(0, 5, 3), reader(4, at(3, 0)))
	wantShown(t, "a later version", api.Missed, wrote(0, 1, 3), wrote(1, 2, 3), wrote(2, 3, 3), reader(3, at(3, 1)))
	wantShown(t, "the next version is behind the start", 0, wrote(0, 1, 3), wrote(1, 5, 3), wrote(5, 6, 3), reader(4, at(3, 1)))
	wantShown(t, "of another page", 0, wrote(0, 1, 4), reader(1, at(3, 0)))
	wantShown(t, "who passes isn't Done", 0, undone(wrote(0, 1, 3)), reader(1, at(3, 0)))
	wantShown(t, "who is passed isn't Done", 0, wrote(0, 1, 3), undone(reader(1, at(3, 0))))
	wantShown(t, "a writer missed it", api.Missed, wrote(0, 1, 3), reading(wrote(1, 2, 4), at(3, 0)))
	wantShown(t, "a version that nobody has committed isn't passed", api.Aborted, wrote(0, 9, 3), reader(9, at(3, 4)))
	wantShown(t, "read twice, once too early", api.Missed, wrote(0, 1, 3), reader(1, at(3, 1), at(3, 0)))
	wantShown(t, "one's own version, passed by a later one", 0, reading(wrote(0, 1, 3), at(3, 1)), wrote(1, 2, 3))
	wantShown(t, "one writes over what one has read oneself", 0, reading(wrote(0, 1, 3), at(3, 0)))
}

func TestMissedByLongerWays(t *testing.T) { // P26.1
	// the reader starts at 1, ahead of the end of who passes it (2), and depends on that one by a page
	wantShown(t, "half of a commit", api.Missed|api.Interfering,
		wrote(0, 2, 3, 4), reader(1, at(3, 0), at(4, 2)))
	// 2 passes the reader; 3 has written over 2, and was read: two steps of who depends
	wantShown(t, "two steps of depending", api.Missed|api.Interfering,
		wrote(0, 5, 3, 4), wrote(0, 6, 4), reader(1, at(3, 0), at(4, 6)))
	wantShown(t, "the same, the one between isn't Done", api.Aborted,
		wrote(0, 5, 3, 4), undone(wrote(0, 6, 4)), reader(1, at(3, 0), at(4, 6)))
	// 5 passes the reader, and is ahead of 6, which the reader has read
	wantShown(t, "ahead, then depending", api.Missed|api.Interfering,
		wrote(0, 5, 3), wrote(5, 6, 4), reader(1, at(3, 0), at(4, 6)))
	wantShown(t, "the one between starts ahead of that", api.Interfering,
		wrote(0, 5, 3), wrote(4, 6, 4), reader(1, at(3, 0), at(4, 6)))
	// 9 passes the reader; one who has read that, and starts earlier, is ahead of the reader
	wantShown(t, "depending, then ahead", api.Missed|api.Interfering,
		wrote(0, 9, 3), reader(2, at(3, 9)), reader(2, at(3, 0)))
	wantShown(t, "depending, then not ahead", api.Interfering,
		wrote(0, 9, 3), reader(3, at(3, 9)), reader(2, at(3, 0)))
	// the way leads over a transaction that has done nothing
	wantShown(t, "ahead, and ahead", api.Missed, wrote(0, 1, 3), reader(4), reader(5, at(3, 0)))
	wantShown(t, "back by a step, and on by two", api.Missed|api.Interfering,
		wrote(0, 9, 3), reading(wrote(1, 2, 4), at(3, 9)), reading(wrote(2, 7, 5), at(4, 2)), reader(7, at(3, 0), at(5, 7)))
}

func TestOneEach(t *testing.T) { // P26.1: what doesn't touch each other is added up
	aborted := []api.Past{reader(0, at(90, 77))}
	circle := []api.Past{reading(wrote(0, 1, 3), at(4, 2)), reading(wrote(0, 2, 4), at(3, 1))}
	interfering := []api.Past{wrote(0, 11, 13), wrote(0, 12, 13)}
	missed := []api.Past{wrote(0, 21, 23), reader(21, at(23, 0))}
	parts := [][]api.Past{aborted, circle, interfering, missed}
	shows := []uint8{api.Aborted, api.Circle | api.Interfering, api.Interfering, api.Missed}
	for set := range 16 {
		var l []api.Past
		var want uint8
		for i := range parts {
			if set>>i&1 == 1 {
				l = append(l, parts[i]...)
				want |= shows[i]
			}
		}
		wantShown(t, "parts together", want, l...)
	}
}

func TestHandedIn(t *testing.T) { // rule 4
	make := func() []api.Past {
		l := []api.Past{reading(wrote(5, 6, 4, 3, 4), at(3, 2), at(9, 0)), wrote(1, 2, 3), undone(wrote(0, 1, 9)), reader(0, at(1, 0))}
		return l[:3]
	}
	l, want := make(), make()
	Check(l)
	if !same(l, want) || !same(l[:4], want[:4]) {
		t.Error("Check has changed what was handed in")
	}
}

func same(a, b []api.Past) bool {
	return slices.EqualFunc(a, b, func(x, y api.Past) bool {
		return x.Start == y.Start && x.Commit == y.Commit && x.Done == y.Done && slices.Equal(x.Reads, y.Reads) && slices.Equal(x.Writes, y.Writes)
	})
}

func TestMany(t *testing.T) { // P26.1: it ends, of long histories too
	var l []api.Past
	const n = 1500
	for i := range uint32(n) {
		l = append(l, reading(wrote(i, i+1, uint16(i%7)), at(uint16(i%5), last(i, uint16(i%5)))))
	}
	if got, e := Check(l); got != 0 || e != api.OK {
		t.Errorf("Check = %d, %d", got, e)
	}
	l[n-1].Reads = []api.Seen{at(6, 7)}
	if got, e := Check(l); got != api.Missed || e != api.OK {
		t.Errorf("Check of the one that reads too early = %d, %d", got, e)
	}
	l[0].Reads = []api.Seen{at((n-1)%7, n)}
	if got, e := Check(l); got != api.Missed|api.Circle|api.Interfering || e != api.OK {
		t.Errorf("Check of the one that reads too late = %d, %d", got, e)
	}
}

// last is the last version of a page up to i commits, of which each one has written the page of its number modulo 7.
func last(i uint32, page uint16) uint32 {
	for ; i > 0; i-- {
		if uint16((i-1)%7) == page {
			return i
		}
	}
	return 0
}
