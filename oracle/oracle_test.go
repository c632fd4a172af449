package oracle

import (
	"math"
	"math/rand"
	"slices"
	"testing"

	"varve/api"
)

const most = math.MaxUint32

// told is a transaction as a diary has it: its number is its place, from 1 on.
type told struct {
	start uint32
	ended bool
}

// diary is an oracle told anew: all that was ever begun, in order, and how many commits may come still.
type diary struct {
	last uint32
	left uint32
	all  []told
}

func (d *diary) live() []uint64 {
	var list []uint64
	for i, x := range d.all {
		if !x.ended {
			list = append(list, uint64(i)+1)
		}
	}
	return list
}

func (d *diary) begin() (uint64, uint32, api.Errno) {
	if len(d.live()) == 8 {
		return 0, 0, api.ErrMany
	}
	d.all = append(d.all, told{start: d.last})
	return uint64(len(d.all)), d.last, api.OK
}

func (d *diary) start(txn uint64) (uint32, bool) {
	if !slices.Contains(d.live(), txn) {
		return 0, false
	}
	return d.all[txn-1].start, true
}

func (d *diary) end(txn uint64) api.Errno {
	if !slices.Contains(d.live(), txn) {
		return api.ErrTxn
	}
	d.all[txn-1].ended = true
	return api.OK
}

func (d *diary) next() (uint32, api.Errno) {
	if d.left == 0 {
		return 0, api.ErrTs
	}
	return d.last + 1, api.OK
}

func (d *diary) publish(ts uint32) api.Errno {
	if d.left == 0 || ts == 0 || ts-1 != d.last {
		return api.ErrArg
	}
	d.last, d.left = ts, d.left-1
	return api.OK
}

// horizon leans on what was begun later not having started sooner.
func (d *diary) horizon() uint32 {
	for _, x := range d.all {
		if !x.ended {
			return x.start
		}
	}
	return d.last
}

// strange are numbers of which most are no live transaction's.
func strange(d *diary) []uint64 {
	n := uint64(len(d.all))
	return []uint64{0, 1, n, n + 1, n + 2, math.MaxUint32, 1 << 32, 1<<32 + 1, 1<<32 + n, 1 << 63, math.MaxUint64 - 1, math.MaxUint64}
}

// same holds all that an oracle tells against a diary.
func same(t *testing.T, name string, o *Oracle, d *diary) {
	t.Helper()
	if o.Last() != d.last || o.Horizon() != d.horizon() {
		t.Fatalf("%s: Last %d, Horizon %d, want %d, %d", name, o.Last(), o.Horizon(), d.last, d.horizon())
	}
	if list := o.Live(); !slices.Equal(list, d.live()) {
		t.Fatalf("%s: Live = %v, want %v", name, list, d.live())
	}
	ts, e := o.Next()
	if want, err := d.next(); ts != want || e != err {
		t.Fatalf("%s: Next = %d, %v, want %d, %v", name, ts, e, want, err)
	}
	for _, txn := range append(strange(d), d.live()...) {
		s, ok := o.Start(txn)
		if want, is := d.start(txn); s != want || ok != is {
			t.Fatalf("%s: Start(%d) = %d, %v, want %d, %v", name, txn, s, ok, want, is)
		}
	}
}

func wantBegin(t *testing.T, o *Oracle, txn uint64, start uint32, err api.Errno) {
	t.Helper()
	if n, s, e := o.Begin(); n != txn || s != start || e != err {
		t.Errorf("Begin = %d, %d, %v, want %d, %d, %v", n, s, e, txn, start, err)
	}
}

func wantStart(t *testing.T, o *Oracle, txn uint64, start uint32, ok bool) {
	t.Helper()
	if s, is := o.Start(txn); s != start || is != ok {
		t.Errorf("Start(%d) = %d, %v, want %d, %v", txn, s, is, start, ok)
	}
}

func wantEnd(t *testing.T, o *Oracle, txn uint64, err api.Errno) {
	t.Helper()
	if e := o.End(txn); e != err {
		t.Errorf("End(%d) = %v, want %v", txn, e, err)
	}
}

func wantNext(t *testing.T, o *Oracle, ts uint32, err api.Errno) {
	t.Helper()
	if n, e := o.Next(); n != ts || e != err {
		t.Errorf("Next = %d, %v, want %d, %v", n, e, ts, err)
	}
}

func wantPublish(t *testing.T, o *Oracle, ts uint32, err api.Errno) {
	t.Helper()
	if e := o.Publish(ts); e != err {
		t.Errorf("Publish(%d) = %v, want %v", ts, e, err)
	}
}

// wantTimes holds the last commit's timestamp and the horizon against what they must be.
func wantTimes(t *testing.T, o *Oracle, last, horizon uint32) {
	t.Helper()
	if o.Last() != last || o.Horizon() != horizon {
		t.Errorf("Last %d, Horizon %d, want %d, %d", o.Last(), o.Horizon(), last, horizon)
	}
}

func wantLive(t *testing.T, o *Oracle, want ...uint64) {
	t.Helper()
	if list := o.Live(); !slices.Equal(list, want) {
		t.Errorf("Live = %v, want %v", list, want)
	}
}

func TestExamples(t *testing.T) { // P14.1 to P14.4
	o := New(3, 4)
	wantBegin(t, o, 1, 3, api.OK)
	wantNext(t, o, 4, api.OK)
	wantPublish(t, o, 5, api.ErrArg)
	wantPublish(t, o, 4, api.OK)
	wantBegin(t, o, 2, 4, api.OK)
	wantNext(t, o, 0, api.ErrTs)
	wantTimes(t, o, 4, 3)
	wantEnd(t, o, 1, api.OK)
	wantTimes(t, o, 4, 4)
	wantEnd(t, o, 1, api.ErrTxn)
}

func TestNew(t *testing.T) { // P14.1
	pairs := []struct {
		last, max uint32
		is        bool
	}{
		{0, 0, true}, {0, 1, true}, {1, 0, false}, {1, 1, true}, {4, 5, true}, {5, 5, true}, {6, 5, false},
		{most, most, true}, {most - 1, most, true}, {most, most - 1, false}, {0, most, true}, {most, 0, false},
		{1 << 31, 1<<31 - 1, false}, {1<<31 - 1, 1 << 31, true},
	}
	for _, p := range pairs {
		o := New(p.last, p.max)
		if (o != nil) != p.is {
			t.Errorf("New(%d, %d) is one: %v, want %v", p.last, p.max, o != nil, p.is)
			continue
		}
		if o != nil {
			same(t, "new", o, &diary{last: p.last, left: p.max - p.last})
			wantLive(t, o)
			wantBegin(t, o, 1, p.last, api.OK)
		}
	}
}

func TestNil(t *testing.T) { // P14.1
	for _, o := range []*Oracle{nil, New(1, 0)} {
		for range 2 {
			wantBegin(t, o, 0, 0, api.ErrArg)
			wantNext(t, o, 0, api.ErrArg)
			wantTimes(t, o, 0, 0)
			wantLive(t, o)
			for _, txn := range []uint64{0, 1, 2, math.MaxUint64} {
				wantStart(t, o, txn, 0, false)
				wantEnd(t, o, txn, api.ErrTxn)
			}
			for _, ts := range []uint32{0, 1, 2, most} {
				wantPublish(t, o, ts, api.ErrArg)
			}
		}
	}
}

func TestBegin(t *testing.T) { // P14.2
	o := New(5, 9)
	var want []uint64
	for n := uint64(1); n <= 8; n++ {
		wantBegin(t, o, n, 5, api.OK)
		want = append(want, n)
		wantLive(t, o, want...)
	}
	for range 3 {
		wantBegin(t, o, 0, 0, api.ErrMany)
		wantLive(t, o, want...)
	}
	wantEnd(t, o, 4, api.OK)
	wantBegin(t, o, 9, 5, api.OK) // what was refused has no number, and 4 isn't given again
	wantBegin(t, o, 0, 0, api.ErrMany)
	wantLive(t, o, 1, 2, 3, 5, 6, 7, 8, 9)
	for _, txn := range o.Live() {
		wantEnd(t, o, txn, api.OK)
	}
	wantLive(t, o)
	wantBegin(t, o, 10, 5, api.OK)
	wantEnd(t, o, 10, api.OK)
	wantBegin(t, o, 11, 5, api.OK)
	wantLive(t, o, 11)
}

func TestManyLives(t *testing.T) { // P14.2: numbers go on, however many have ended
	o := New(0, 0)
	for n := uint64(1); n <= 70000; n++ {
		if txn, s, e := o.Begin(); txn != n || s != 0 || e != api.OK {
			t.Fatalf("Begin = %d, %d, %v, want %d, 0, OK", txn, s, e, n)
		}
		if n > 5 {
			wantEnd(t, o, n-5, api.OK)
		}
	}
	wantLive(t, o, 69996, 69997, 69998, 69999, 70000)
}

func TestStart(t *testing.T) { // P14.2
	o := New(7, 20)
	wantStart(t, o, 0, 0, false)
	wantStart(t, o, 1, 0, false)
	wantBegin(t, o, 1, 7, api.OK)
	wantPublish(t, o, 8, api.OK)
	wantBegin(t, o, 2, 8, api.OK)
	wantBegin(t, o, 3, 8, api.OK)
	for range 2 {
		wantStart(t, o, 1, 7, true)
		wantStart(t, o, 2, 8, true)
		wantStart(t, o, 3, 8, true)
		for _, txn := range []uint64{0, 4, 7, 8, 1<<32 + 1, math.MaxUint64} {
			wantStart(t, o, txn, 0, false)
		}
	}
	wantEnd(t, o, 2, api.OK)
	wantStart(t, o, 2, 0, false)
	wantStart(t, o, 1, 7, true)
	wantStart(t, o, 3, 8, true)
	wantPublish(t, o, 9, api.OK)
	wantStart(t, o, 1, 7, true) // a start stays what it was
	wantStart(t, o, 3, 8, true)
	z := New(0, 0)
	wantBegin(t, z, 1, 0, api.OK)
	wantStart(t, z, 1, 0, true)
}

func TestEnd(t *testing.T) { // P14.2
	o := New(2, 3)
	never := []uint64{0, 4, 5, 1 << 32, 1<<32 + 2, math.MaxUint64}
	wantEnd(t, o, 1, api.ErrTxn)
	for n := uint64(1); n <= 3; n++ {
		wantBegin(t, o, n, 2, api.OK)
	}
	for _, txn := range never {
		wantEnd(t, o, txn, api.ErrTxn)
	}
	wantLive(t, o, 1, 2, 3)
	wantEnd(t, o, 2, api.OK)
	wantLive(t, o, 1, 3)
	wantEnd(t, o, 2, api.ErrTxn)
	wantLive(t, o, 1, 3)
	wantEnd(t, o, 3, api.OK)
	wantEnd(t, o, 1, api.OK)
	for n := uint64(1); n <= 3; n++ {
		wantEnd(t, o, n, api.ErrTxn)
	}
	wantLive(t, o)
	for _, txn := range never { // 4 was ended ahead of its beginning: that counts for nothing
		wantEnd(t, o, txn, api.ErrTxn)
	}
	wantBegin(t, o, 4, 2, api.OK)
	wantLive(t, o, 4)
	wantStart(t, o, 4, 2, true)
}

func TestLiveIsOrdered(t *testing.T) { // P14.2: whatever was ended
	for set := range 1 << 8 {
		o := New(0, 1)
		for range 8 {
			o.Begin()
		}
		var want []uint64
		for n := uint64(8); n >= 1; n-- {
			if set>>(n-1)&1 == 0 {
				want = append([]uint64{n}, want...)
			} else {
				wantEnd(t, o, n, api.OK)
			}
		}
		wantLive(t, o, want...)
		for n := uint64(9); len(want) < 8; n++ {
			wantBegin(t, o, n, 0, api.OK)
			want = append(want, n)
			wantLive(t, o, want...)
		}
	}
}

func TestLiveIsTheCallersOwn(t *testing.T) { // P14.2, rule 4
	o := New(1, 2)
	for range 3 {
		o.Begin()
	}
	list, other := o.Live(), o.Live()
	list[0], list[2] = 9, 0
	_ = append(list[:1], 7, 7, 7)
	if !slices.Equal(other, []uint64{1, 2, 3}) {
		t.Errorf("two answers share memory: %v", other)
	}
	wantLive(t, o, 1, 2, 3)
	wantStart(t, o, 9, 0, false)
	wantEnd(t, o, 1, api.OK)
	if !slices.Equal(other, []uint64{1, 2, 3}) {
		t.Errorf("End changes what was answered: %v", other)
	}
}

func TestNextAndPublish(t *testing.T) { // P14.3, P14.4
	o := New(3, 5)
	for _, ts := range []uint32{0, 1, 2, 3, 5, 6, most} {
		wantPublish(t, o, ts, api.ErrArg)
		wantTimes(t, o, 3, 3)
	}
	for range 3 {
		wantNext(t, o, 4, api.OK) // asked, not given
	}
	wantPublish(t, o, 4, api.OK)
	wantTimes(t, o, 4, 4)
	wantPublish(t, o, 4, api.ErrArg)
	wantPublish(t, o, 3, api.ErrArg)
	wantPublish(t, o, 6, api.ErrArg)
	wantNext(t, o, 5, api.OK)
	wantPublish(t, o, 5, api.OK)
	wantTimes(t, o, 5, 5)
	for range 2 {
		wantNext(t, o, 0, api.ErrTs)
		for _, ts := range []uint32{0, 1, 4, 5, 6, 7, most} {
			wantPublish(t, o, ts, api.ErrArg)
		}
		wantTimes(t, o, 5, 5)
	}
}

func TestTheLastTimestamps(t *testing.T) { // P14.3: nothing goes round
	o := New(most-1, most)
	wantNext(t, o, most, api.OK)
	wantPublish(t, o, 0, api.ErrArg)
	wantPublish(t, o, most-1, api.ErrArg)
	wantPublish(t, o, most, api.OK)
	for _, o := range []*Oracle{o, New(most, most)} {
		wantNext(t, o, 0, api.ErrTs)
		for _, ts := range []uint32{0, 1, most - 1, most} {
			wantPublish(t, o, ts, api.ErrArg)
		}
		wantTimes(t, o, most, most)
		wantBegin(t, o, 1, most, api.OK)
		wantTimes(t, o, most, most)
	}
	z := New(0, 0)
	wantNext(t, z, 0, api.ErrTs)
	wantPublish(t, z, 0, api.ErrArg)
	wantPublish(t, z, 1, api.ErrArg)
	wantTimes(t, z, 0, 0)
	one := New(0, 1)
	wantPublish(t, one, 0, api.ErrArg)
	wantPublish(t, one, 2, api.ErrArg)
	wantPublish(t, one, 1, api.OK)
	wantNext(t, one, 0, api.ErrTs)
}

// staggered is an oracle with transactions 1 to n, each of which starts one commit behind the one ahead of it, from 10 on.
func staggered(t *testing.T, n int) *Oracle {
	t.Helper()
	o := New(10, 99)
	for i := range n {
		wantBegin(t, o, uint64(i)+1, uint32(i)+10, api.OK)
		wantPublish(t, o, uint32(i)+11, api.OK)
	}
	return o
}

func TestHorizon(t *testing.T) { // P14.4
	o := New(6, 9)
	wantTimes(t, o, 6, 6)
	wantPublish(t, o, 7, api.OK)
	wantTimes(t, o, 7, 7)
	o = staggered(t, 3) // the oldest one ends first
	for n, want := range []uint32{10, 11, 12, 13} {
		if n > 0 {
			wantEnd(t, o, uint64(n), api.OK)
		}
		wantTimes(t, o, 13, want)
	}
	o = staggered(t, 3) // the oldest one ends last
	for _, n := range []uint64{3, 2} {
		wantEnd(t, o, n, api.OK)
		wantTimes(t, o, 13, 10)
	}
	wantEnd(t, o, 1, api.OK)
	wantTimes(t, o, 13, 13)
	o = staggered(t, 3) // one in the middle ends first
	wantEnd(t, o, 2, api.OK)
	wantTimes(t, o, 13, 10)
	wantEnd(t, o, 1, api.OK)
	wantTimes(t, o, 13, 12)
	wantPublish(t, o, 14, api.OK)
	wantTimes(t, o, 14, 12)
	wantEnd(t, o, 3, api.OK)
	wantTimes(t, o, 14, 14)
}

func TestHorizonOfOneStart(t *testing.T) { // P14.4
	o := New(0, 9)
	for range 3 {
		o.Begin()
	}
	wantPublish(t, o, 1, api.OK)
	for _, n := range []uint64{2, 1} {
		wantTimes(t, o, 1, 0)
		wantEnd(t, o, n, api.OK)
	}
	wantTimes(t, o, 1, 0) // 3 has the same start still
	wantEnd(t, o, 3, api.OK)
	wantTimes(t, o, 1, 1)
}

// step does one thing with an oracle and with a diary, and holds what they answer against each other.
func step(t *testing.T, r *rand.Rand, o *Oracle, d *diary) {
	t.Helper()
	switch r.Intn(5) {
	case 0, 1:
		n, s, e := o.Begin()
		if txn, start, err := d.begin(); n != txn || s != start || e != err {
			t.Fatalf("Begin = %d, %d, %v, want %d, %d, %v", n, s, e, txn, start, err)
		}
	case 2, 3:
		list := d.live()
		if len(list) == 0 || r.Intn(5) == 0 {
			list = strange(d)
		}
		txn := list[r.Intn(len(list))]
		e := o.End(txn)
		if err := d.end(txn); e != err {
			t.Fatalf("End(%d) = %v, want %v", txn, e, err)
		}
	default:
		list := []uint32{d.last + 1, d.last + 1, d.last + 1, d.last, d.last + 2, d.last - 1, 0, most, r.Uint32()}
		ts := list[r.Intn(len(list))]
		e := o.Publish(ts)
		if err := d.publish(ts); e != err {
			t.Fatalf("Publish(%d) = %v, want %v", ts, e, err)
		}
	}
	same(t, "a script", o, d)
}

func TestScripts(t *testing.T) { // P14.1 to P14.5
	r := rand.New(rand.NewSource(14))
	for range 400 {
		room := uint32(r.Intn(30))
		last := []uint32{0, 1, 3, 1<<31 - 5, most - room}[r.Intn(5)]
		o, d := New(last, last+room), &diary{last: last, left: room}
		was := o.Horizon()
		for range 150 {
			step(t, r, o, d)
			now := o.Horizon()
			if now < was || o.Last() > last+room {
				t.Fatalf("the horizon goes from %d to %d, with Last %d and max %d", was, now, o.Last(), last+room)
			}
			for _, txn := range o.Live() {
				if s, ok := o.Start(txn); !ok || s < now || s > o.Last() {
					t.Fatalf("Start(%d) = %d, %v, with the horizon %d and Last %d", txn, s, ok, now, o.Last())
				}
			}
			was = now
		}
	}
}

func TestAlone(t *testing.T) { // rule 6: oracles know nothing of each other
	a, b := New(1, 5), New(1, 5)
	for range 8 {
		a.Begin()
	}
	wantPublish(t, a, 2, api.OK)
	same(t, "the other one", b, &diary{last: 1, left: 4})
	wantBegin(t, b, 1, 1, api.OK)
	wantEnd(t, b, 1, api.OK)
	wantLive(t, a, 1, 2, 3, 4, 5, 6, 7, 8)
}
