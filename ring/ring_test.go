package ring

import (
	"encoding/binary"
	"hash/crc32"
	"math"
	"math/big"
	"math/rand"
	"slices"
	"strings"
	"testing"

	"varve/api"
	"varve/seal"
)

// The helpers here tell the chapter's words by other means than the package does.

// little is a number in n bytes, the lowest first.
func little(v uint64, n int) string {
	return string(binary.LittleEndian.AppendUint64(nil, v)[:n])
}

// payload is Offset, how many bytes, these, and noughts.
func payload(offset uint64, size int, bytes string) api.Payload {
	text := little(offset, 8) + little(uint64(size), 2) + bytes
	return api.Payload([]byte(text + strings.Repeat("\x00", 224-len(text))))
}

// sealed is a payload's block, with an Epoch and a Number as its stamp.
func sealed(epoch, number uint32, p api.Payload) api.Block {
	text := ""
	for part := 0; part < 224; part += 56 {
		text += string(p[part:part+56]) + little(uint64(number), 4) + little(uint64(epoch), 4)
	}
	return api.Block([]byte(text))
}

// block is a chunk's block.
func block(c api.Chunk) api.Block {
	return sealed(c.Epoch, c.Number, payload(c.Offset, len(c.Bytes), c.Bytes))
}

// chunkOf is what a block holds, part by part.
func chunkOf(b api.Block) (api.Chunk, bool) {
	all := ""
	for at := 0; at < 256; at += 64 {
		if string(b[at+56:at+64]) != string(b[56:64]) {
			return api.Chunk{}, false
		}
		all += string(b[at : at+56])
	}
	size := int(all[8]) + 256*int(all[9])
	if size < 1 || size > 214 || strings.Trim(all[10+size:], "\x00") != "" {
		return api.Chunk{}, false
	}
	stamp := b[56:64]
	return api.Chunk{
		Epoch:  binary.LittleEndian.Uint32(stamp[4:]),
		Number: binary.LittleEndian.Uint32(stamp[:4]),
		Offset: binary.LittleEndian.Uint64([]byte(all[:8])),
		Bytes:  all[10 : 10+size],
	}, true
}

// frame is a text of 1 to 400 bytes with its length and sum.
func frame(s string) string {
	return little(uint64(len(s)), 2) + little(uint64(crc32.ChecksumIEEE([]byte(s))), 4) + s
}

func natural(v uint64) *big.Int { return new(big.Int).SetUint64(v) }

// stands tells, by numbers of any size, whether base <= at <= base + length.
func stands(base uint64, length int, at uint64) bool {
	end := natural(base)
	end.Add(end, big.NewInt(int64(length)))
	return natural(at).Cmp(natural(base)) >= 0 && natural(at).Cmp(end) <= 0
}

// joined is what Join answers.
type joined struct {
	base   uint64
	stream string
	starts []api.Start
	epoch  uint32
}

func join(first uint32, list []api.Chunk) joined {
	base, stream, starts, epoch := Join(first, list)
	return joined{base, stream, starts, epoch}
}

func (j joined) same(k joined) bool {
	return j.base == k.base && j.stream == k.stream && slices.Equal(j.starts, k.starts) && j.epoch == k.epoch
}

// joinWant is what Join must answer.
func joinWant(first uint32, list []api.Chunk) joined {
	var j joined
	for i, c := range list {
		if (uint64(first)+uint64(i))%(1<<32) != uint64(c.Number) {
			break
		}
		if i == 0 {
			j.base = c.Offset
		} else if c.Epoch < list[i-1].Epoch || !stands(j.base, len(j.stream), c.Offset) {
			break
		}
		j.stream = j.stream[:int(c.Offset-j.base)] + c.Bytes
		j.starts = append(j.starts, api.Start{Number: c.Number, Offset: c.Offset})
		j.epoch = c.Epoch
	}
	return j
}

// itemsWant is what Items must answer.
func itemsWant(base uint64, stream string, at uint64) ([]api.Item, uint64) {
	if !stands(base, len(stream), at) {
		return nil, at
	}
	var list []api.Item
	for s := stream[at-base:]; len(s) > 6; {
		n := int(s[0]) + 256*int(s[1])
		if n < 1 || n > 400 || len(s) < 6+n || s[:6+n] != frame(s[6:6+n]) {
			break
		}
		list = append(list, api.Item{LSN: at, Bytes: s[6 : 6+n]})
		s = s[6+n:]
		at += 6 + uint64(n)
	}
	return list, at
}

// keepWant is what Keep must answer.
func keepWant(first uint32, starts []api.Start, end uint64) ([]api.Start, uint32) {
	n := slices.IndexFunc(starts, func(s api.Start) bool { return s.Offset >= end })
	if n < 0 {
		n = len(starts)
	}
	return starts[:n], uint32((uint64(first) + uint64(n)) % (1 << 32))
}

func checkJoin(t *testing.T, name string, first uint32, list []api.Chunk) joined {
	t.Helper()
	got, want := join(first, list), joinWant(first, list)
	if !got.same(want) {
		t.Errorf("%s: Join(%d, %v) = %v, want %v", name, first, list, got, want)
	}
	return got
}

func checkItems(t *testing.T, name string, base uint64, stream string, at uint64) ([]api.Item, uint64) {
	t.Helper()
	got, end := Items(base, stream, at)
	want, wantEnd := itemsWant(base, stream, at)
	if !slices.Equal(got, want) || end != wantEnd {
		t.Errorf("%s: Items(%d, %x, %d) = %v, %d, want %v, %d", name, base, stream, at, got, end, want, wantEnd)
	}
	return got, end
}

func checkKeep(t *testing.T, name string, first uint32, starts []api.Start, end uint64) {
	t.Helper()
	got, next := Keep(first, starts, end)
	want, wantNext := keepWant(first, starts, end)
	if !slices.Equal(got, want) || next != wantNext {
		t.Errorf("%s: Keep(%d, %v, %d) = %v, %d, want %v, %d", name, first, starts, end, got, next, want, wantNext)
	}
}

// checkNone fails if a block is a chunk's.
func checkNone(t *testing.T, name string, b api.Block) {
	t.Helper()
	if c, ok := Unpack(b); c != (api.Chunk{}) || ok {
		t.Errorf("%s: Unpack(%x) = %v, %v", name, b, c, ok)
	}
}

// text is n random bytes.
func text(r *rand.Rand, n int) string {
	b := make([]byte, n)
	r.Read(b)
	return string(b)
}

// small and great are the edges of Epochs and Numbers, and of Offsets.
func small() []uint32 {
	return []uint32{0, 1, 255, 256, 0x04030201, 1 << 31, math.MaxUint32 - 1, math.MaxUint32}
}

func great() []uint64 {
	return []uint64{0, 1, 255, 256, 1 << 32, 0x0807060504030201, 1 << 63, math.MaxUint64 - 1, math.MaxUint64}
}

// chunks are those of the edges.
func chunks() []api.Chunk {
	r := rand.New(rand.NewSource(1))
	var list []api.Chunk
	for _, n := range []int{1, 2, 45, 46, 47, 102, 158, 213, 214} {
		for _, s := range []string{text(r, n), strings.Repeat("\x00", n), strings.Repeat("\xff", n)} {
			list = append(list, api.Chunk{Epoch: 3, Number: 4, Offset: 5, Bytes: s})
		}
	}
	for _, v := range small() {
		list = append(list, api.Chunk{Epoch: v, Bytes: "a"}, api.Chunk{Number: v, Bytes: "a"})
	}
	for _, v := range great() {
		list = append(list, api.Chunk{Offset: v, Bytes: "a"})
	}
	full := api.Chunk{Epoch: math.MaxUint32, Number: math.MaxUint32, Offset: math.MaxUint64, Bytes: strings.Repeat("\xff", 214)}
	list = append(list, full, api.Chunk{Bytes: "\x00"})
	for range 200 {
		c := api.Chunk{Epoch: r.Uint32(), Number: r.Uint32(), Offset: r.Uint64(), Bytes: text(r, 1+r.Intn(214))}
		list = append(list, c)
	}
	return list
}

func TestExamples(t *testing.T) { // P10.3, P10.4
	list := []api.Chunk{{Epoch: 1, Number: 4, Bytes: "ab"}, {Epoch: 1, Number: 5, Offset: 2, Bytes: "cd"}, {Epoch: 2, Number: 6, Offset: 3, Bytes: "x"}}
	starts := []api.Start{{Number: 4}, {Number: 5, Offset: 2}, {Number: 6, Offset: 3}}
	if j := join(4, list); !j.same(joined{0, "abcx", starts, 2}) {
		t.Errorf("Join = %v", j)
	}
	list[1].Epoch = 3
	if j := join(4, list); !j.same(joined{0, "abcd", starts[:2], 3}) {
		t.Errorf("Join with 5 at the epoch 3 = %v", j)
	}
	if items, end := Items(0, Frame("hi")+"z", 0); !slices.Equal(items, []api.Item{{LSN: 0, Bytes: "hi"}}) || end != 8 {
		t.Errorf("Items = %v, %d", items, end)
	}
	if kept, next := Keep(4, starts, 3); !slices.Equal(kept, starts[:2]) || next != 6 {
		t.Errorf("Keep = %v, %d", kept, next)
	}
}

func TestPackTold(t *testing.T) { // P10.1
	b, e := Pack(api.Chunk{Epoch: 0x14131211, Number: 0x24232221, Offset: 0x0807060504030201, Bytes: "ab"})
	sector := func(part string) string {
		return part + strings.Repeat("\x00", 56-len(part)) + "\x21\x22\x23\x24\x11\x12\x13\x14"
	}
	want := sector("\x01\x02\x03\x04\x05\x06\x07\x08\x02\x00ab") + sector("") + sector("") + sector("")
	if string(b[:]) != want || e != api.OK {
		t.Errorf("Pack = %x, %d, want %x", b, e, want)
	}
}

func TestPackAndUnpack(t *testing.T) { // P10.1, P10.5
	for _, c := range chunks() {
		b, e := Pack(c)
		if b != block(c) || e != api.OK {
			t.Errorf("Pack(%v) = %x, %d, want %x", c, b, e, block(c))
		}
		if again, ok := Unpack(b); again != c || !ok {
			t.Errorf("Unpack of the block of %v = %v, %v", c, again, ok)
		}
	}
}

func TestPackSizes(t *testing.T) { // P10.1
	for _, n := range []int{0, 1, 2, 213, 214, 215, 216, 224, 255, 256, 257, 400, 1 << 16, 1<<16 + 1, 1 << 20} {
		c := api.Chunk{Epoch: 1, Number: 2, Offset: 3, Bytes: strings.Repeat("s", n)}
		b, e := Pack(c)
		if n >= 1 && n <= 214 {
			if b != block(c) || e != api.OK {
				t.Errorf("Pack of %d bytes = %x, %d", n, b, e)
			}
		} else if b != (api.Block{}) || e != api.ErrArg {
			t.Errorf("Pack of %d bytes = %x, %d", n, b, e)
		}
	}
	if b, e := Pack(api.Chunk{}); b != (api.Block{}) || e != api.ErrArg {
		t.Errorf("Pack of an empty chunk = %x, %d", b, e)
	}
}

func TestUnpackUnsealed(t *testing.T) { // P10.1
	checkNone(t, "noughts", api.Block{})
	r := rand.New(rand.NewSource(2))
	for range 500 {
		checkNone(t, "random bytes", api.Block([]byte(text(r, 256))))
	}
	for _, c := range chunks() {
		for i := range 4 {
			b := block(c)
			checkNone(t, "a torn sector", seal.Lay(b, i, api.Sector([]byte(text(r, 64)))))
			for k := 56; k < 64; k++ {
				torn := b
				torn[64*i+k] ^= 1 << r.Intn(8)
				checkNone(t, "a turned bit of a stamp", torn)
			}
		}
	}
}

// Any length that a sealed block may tell, with noughts or others behind the bytes.
func TestUnpackLengths(t *testing.T) { // P10.1
	full := strings.Repeat("f", 214)
	for size := range 1 << 16 {
		checkSize(t, size, full)
	}
	for size := range 300 {
		for n := range 215 {
			checkSize(t, size, full[:n])
		}
	}
}

// checkSize holds a sealed block that tells a length, with some bytes, against the chapter.
func checkSize(t *testing.T, size int, bytes string) {
	t.Helper()
	c, ok := Unpack(sealed(7, 8, payload(9, size, bytes)))
	if size < 1 || size > 214 || size < len(bytes) {
		if c != (api.Chunk{}) || ok {
			t.Errorf("the length %d, %d bytes: Unpack = %v, %v", size, len(bytes), c, ok)
		}
		return
	}
	want := api.Chunk{Epoch: 7, Number: 8, Offset: 9, Bytes: bytes + strings.Repeat("\x00", size-len(bytes))}
	if c != want || !ok {
		t.Errorf("the length %d, %d bytes: Unpack = %v, %v", size, len(bytes), c, ok)
	}
}

// Something behind the bytes, at each place: the block is none.
func TestUnpackBehindTheBytes(t *testing.T) { // P10.1
	for size := 1; size <= 214; size++ {
		whole := payload(9, size, strings.Repeat("f", size))
		for at := 10 + size; at < 224; at++ {
			p := whole
			p[at] = byte(1 + at%255)
			checkNone(t, "something behind the bytes", seal.Seal(7<<32|8, p))
		}
	}
}

func TestUnpackTold(t *testing.T) { // P10.1
	good := 0
	check := func(b api.Block) {
		t.Helper()
		want, is := chunkOf(b)
		if c, ok := Unpack(b); c != want || ok != is {
			t.Fatalf("Unpack(%x) = %v, %v, want %v, %v", b, c, ok, want, is)
		}
		if is {
			good++
		}
	}
	for _, c := range chunks()[:60] {
		whole := block(c)
		for i := range whole {
			for bit := range 8 {
				b := whole
				b[i] ^= 1 << bit
				check(b)
			}
		}
	}
	r := rand.New(rand.NewSource(3))
	for range 5000 {
		n := r.Intn(215)
		check(sealed(r.Uint32(), r.Uint32(), payload(r.Uint64(), r.Intn(230), text(r, n)+strings.Repeat("\x00", r.Intn(215-n)))))
	}
	if good < 2000 {
		t.Errorf("only %d of the blocks are chunks'", good)
	}
}

// mixed is a block with those sectors of another one that a mask has.
func mixed(a, b api.Block, mask int) api.Block {
	for i := range 4 {
		if mask>>i&1 == 1 {
			copy(a[64*i:64*i+64], b[64*i:64*i+64])
		}
	}
	return a
}

func TestMixedBlocks(t *testing.T) { // P10.1, P10.5
	list := chunks()
	r := rand.New(rand.NewSource(4))
	for _, c := range list {
		others := []api.Chunk{list[r.Intn(len(list))], c, c, c, c}
		others[1].Number++
		others[2].Epoch++
		others[3].Number ^= 1 << 31
		others[4].Epoch ^= 1 << 31
		for _, d := range others {
			a, _ := Pack(c)
			b, _ := Pack(d)
			for mask := 1; mask < 15; mask++ {
				if c.Epoch != d.Epoch || c.Number != d.Number {
					checkNone(t, "mixed sectors", mixed(a, b, mask))
				}
			}
			if got, ok := Unpack(mixed(a, b, 15)); got != d || !ok {
				t.Errorf("Unpack of %v = %v, %v", d, got, ok)
			}
		}
	}
	// Epoch and Number don't stand in for each other.
	a, _ := Pack(api.Chunk{Epoch: 1, Number: 2, Bytes: "a"})
	b, _ := Pack(api.Chunk{Epoch: 2, Number: 1, Bytes: "a"})
	for mask := 1; mask < 15; mask++ {
		checkNone(t, "Epoch and Number", mixed(a, b, mask))
	}
}

func TestFrame(t *testing.T) { // P10.2
	if s := Frame("123456789"); s != "\x09\x00\x26\x39\xf4\xcb123456789" {
		t.Errorf("Frame of digits = %x", s)
	}
	if s := Frame("\x00"); s != "\x01\x00\x8d\xef\x02\xd2\x00" {
		t.Errorf("Frame of a nought = %x", s)
	}
	r := rand.New(rand.NewSource(5))
	for _, n := range []int{0, 1, 2, 3, 255, 256, 257, 399, 400, 401, 402, 512, 1 << 16, 1<<16 + 1, 1<<16 + 400, 1 << 20} {
		for _, s := range []string{text(r, n), strings.Repeat("\x00", n), strings.Repeat("\xff", n), strings.Repeat("a", n)} {
			want := ""
			if n >= 1 && n <= 400 {
				want = frame(s)
			}
			if got := Frame(s); got != want {
				t.Errorf("Frame of %d bytes = %x", n, got)
			}
		}
	}
}

func TestFramesToldAgain(t *testing.T) { // P10.2, P10.4, P10.5
	r := rand.New(rand.NewSource(6))
	for n := 1; n <= 400; n++ {
		s := text(r, n)
		items, end := Items(77, Frame(s), 77)
		if !slices.Equal(items, []api.Item{{LSN: 77, Bytes: s}}) || end != 77+6+uint64(n) {
			t.Errorf("Items of a frame of %d bytes = %v, %d", n, items, end)
		}
	}
}

func TestJoinNone(t *testing.T) { // P10.3
	one := api.Chunk{Epoch: 3, Number: 7, Offset: 9, Bytes: "a"}
	for _, first := range small() {
		for _, list := range [][]api.Chunk{nil, {}, {one}, {one, {Epoch: 3, Number: first, Offset: 9, Bytes: "b"}}, {one, {Epoch: 3, Number: first + 1, Offset: 10, Bytes: "b"}}} {
			if j := join(first, list); !j.same(joined{}) {
				t.Errorf("Join(%d, %v) = %v", first, list, j)
			}
		}
	}
	for _, first := range []uint32{6, 8, 7 + 1<<31} {
		if j := join(first, []api.Chunk{one}); !j.same(joined{}) {
			t.Errorf("Join(%d, %v) = %v", first, one, j)
		}
	}
}

// Of the first chunk its Number alone is asked for.
func TestJoinOne(t *testing.T) { // P10.3
	for _, epoch := range small() {
		for _, number := range small() {
			for _, offset := range great() {
				c := api.Chunk{Epoch: epoch, Number: number, Offset: offset, Bytes: "ab"}
				want := joined{offset, "ab", []api.Start{{Number: number, Offset: offset}}, epoch}
				if j := join(number, []api.Chunk{c}); !j.same(want) {
					t.Errorf("Join(%d, %v) = %v", number, c, j)
				}
			}
		}
	}
}

func TestJoinNumbers(t *testing.T) { // P10.3
	for _, first := range append(small(), math.MaxUint32-2) {
		var list []api.Chunk
		for i := range 5 {
			list = append(list, api.Chunk{Number: first + uint32(i), Offset: uint64(i), Bytes: string(rune('a' + i))})
		}
		if j := checkJoin(t, "numbers in order", first, list); j.stream != "abcde" || len(j.starts) != 5 || j.starts[4].Number != first+4 {
			t.Errorf("Join from %d on = %v", first, j)
		}
		for at := range 5 {
			for _, by := range []uint32{1, 2, 1 << 31, math.MaxUint32} {
				other := slices.Clone(list)
				other[at].Number += by
				if j := checkJoin(t, "another number", first, other); j.stream != "abcde"[:at] || len(j.starts) != at {
					t.Errorf("Join from %d on, another number at %d = %v", first, at, j)
				}
			}
		}
	}
}

func TestJoinEpochs(t *testing.T) { // P10.3
	for _, c := range []struct {
		epochs []uint32
		stream string
	}{
		{[]uint32{5, 5, 5, 5}, "abcd"},
		{[]uint32{5, 6, 6, 9}, "abcd"},
		{[]uint32{0, math.MaxUint32, math.MaxUint32, math.MaxUint32}, "abcd"},
		{[]uint32{5, 4, 5, 6}, "a"},
		{[]uint32{5, 7, 6, 7}, "ab"}, // not below that of the one ahead, though above the first one's
		{[]uint32{5, 5, 7, 6}, "abc"},
		{[]uint32{math.MaxUint32, 0, 1, 2}, "a"},
		{[]uint32{1, 0, 0, 0}, "a"},
	} {
		var list []api.Chunk
		for i, epoch := range c.epochs {
			list = append(list, api.Chunk{Epoch: epoch, Number: uint32(i), Offset: 1 + uint64(i), Bytes: "abcd"[i : i+1]})
		}
		j := checkJoin(t, "epochs", 0, list)
		if n := len(c.stream); j.stream != c.stream || len(j.starts) != n || j.epoch != c.epochs[n-1] || j.base != 1 {
			t.Errorf("Join of the epochs %d = %v", c.epochs, j)
		}
	}
}

func TestJoinOffsets(t *testing.T) { // P10.3
	for _, base := range []uint64{0, 1, 10, 1 << 32, math.MaxUint64 - 20} {
		for _, c := range []struct {
			second, third int // Offsets from base on
			stream        string
		}{
			{4, 7, "abcdefgxy"},
			{4, 4, "abcdxy"},
			{4, 5, "abcdexy"},
			{4, 0, "xy"},
			{4, 2, "abxy"},
			{0, 3, "efgxy"},
			{0, 0, "xy"},
			{2, 5, "abefgxy"},
			{2, 1, "axy"},
			{4, 8, "abcdefg"},
			{0, 4, "efg"}, // the stream ended further on, ahead of the second
			{2, 6, "abefg"},
			{5, 4, "abcd"},
			{6, 7, "abcd"},
		} {
			list := []api.Chunk{
				{Number: 8, Offset: base, Bytes: "abcd"},
				{Number: 9, Offset: base + uint64(c.second), Bytes: "efg"},
				{Number: 10, Offset: base + uint64(c.third), Bytes: "xy"},
			}
			if j := checkJoin(t, "offsets", 8, list); j.stream != c.stream || j.base != base {
				t.Errorf("Join of the Offsets %d and %d from %d on = %v", c.second, c.third, base, j)
			}
		}
	}
}

func TestJoinAheadOfTheFirst(t *testing.T) { // P10.3
	for _, base := range great() {
		for _, offset := range great() {
			list := []api.Chunk{{Offset: base, Bytes: "abcd"}, {Number: 1, Offset: offset, Bytes: "x"}, {Number: 2, Offset: base, Bytes: "y"}}
			j := checkJoin(t, "any offsets", 0, list)
			if offset < base && !j.same(joined{base, "abcd", []api.Start{{Offset: base}}, 0}) {
				t.Errorf("Join of the Offset %d behind %d = %v", offset, base, j)
			}
		}
	}
}

// Where the stream ends is no less for being beyond the greatest number.
func TestJoinGreatestOffsets(t *testing.T) { // P10.3
	last := uint64(math.MaxUint64)
	for _, c := range []struct {
		first, second uint64
		stream        string
	}{
		{last, last, "x"},
		{last, 0, "abcd"},
		{last, 1, "abcd"},
		{last, 3, "abcd"},
		{last, last - 1, "abcd"},
		{last - 1, last, "ax"},
		{last - 3, last, "abcx"},
		{last - 4, last, "abcdx"},
		{last - 5, last, "abcd"},
		{last - 3, 0, "abcd"},
		{0, last, "abcd"},
	} {
		list := []api.Chunk{{Number: 3, Offset: c.first, Bytes: "abcd"}, {Number: 4, Offset: c.second, Bytes: "x"}}
		if j := checkJoin(t, "the greatest", 3, list); j.stream != c.stream || j.base != c.first {
			t.Errorf("Join of %d and %d = %v", c.first, c.second, j)
		}
	}
}

// Behind the first chunk that isn't taken none is, whatever it is.
func TestJoinEnds(t *testing.T) { // P10.3
	list := []api.Chunk{
		{Epoch: 1, Number: 4, Bytes: "ab"},
		{Epoch: 1, Number: 5, Offset: 2, Bytes: "cd"},
		{Epoch: 1, Number: 6, Offset: 9, Bytes: "ef"},
		{Epoch: 1, Number: 6, Offset: 4, Bytes: "gh"},
		{Epoch: 1, Number: 7, Offset: 4, Bytes: "ij"},
		{Epoch: 1, Number: 8, Offset: 4, Bytes: "kl"},
	}
	if j := join(4, list); !j.same(joined{0, "abcd", []api.Start{{Number: 4}, {Number: 5, Offset: 2}}, 1}) {
		t.Errorf("Join = %v", j)
	}
	if j := join(5, list); !j.same(joined{}) {
		t.Errorf("Join from 5 on = %v", j)
	}
	if j := join(5, list[1:]); !j.same(joined{2, "cd", []api.Start{{Number: 5, Offset: 2}}, 1}) {
		t.Errorf("Join of the rest from 5 on = %v", j)
	}
}

// Join asks nothing of how many bytes a chunk has.
func TestJoinAnyBytes(t *testing.T) { // P10.3
	long := strings.Repeat("l", 1000)
	list := []api.Chunk{{Bytes: ""}, {Number: 1, Bytes: long}, {Number: 2, Offset: 1000}, {Number: 3, Offset: 999, Bytes: "z"}, {Number: 4, Offset: 1000}, {Number: 5, Offset: 0}}
	for n, stream := range []string{"", "", long, long, long[:999] + "z", long[:999] + "z", ""} {
		if j := checkJoin(t, "any bytes", 0, list[:n]); j.stream != stream || len(j.starts) != n {
			t.Errorf("Join of %d chunks = %v", n, j)
		}
	}
}

// randomList is chunks that are mostly taken.
func randomList(r *rand.Rand, first uint32) []api.Chunk {
	base := great()[r.Intn(9)] - uint64(r.Intn(30))
	length, epoch := 0, uint32(r.Intn(4))
	var list []api.Chunk
	for i := range r.Intn(12) {
		c := api.Chunk{Epoch: epoch, Number: first + uint32(i), Offset: base + uint64(length), Bytes: text(r, r.Intn(8))}
		switch r.Intn(20) {
		case 0:
			c.Number += uint32(r.Intn(3)) - 1
		case 1:
			c.Epoch += uint32(r.Intn(3)) - 1
		case 2, 3:
			c.Offset += uint64(r.Intn(3)) - 1
		case 4, 5:
			c.Offset = base + uint64(r.Intn(length+2))
		case 6:
			c.Offset = great()[r.Intn(9)]
		}
		length = int((c.Offset-base)%100) + len(c.Bytes)
		epoch = c.Epoch
		list = append(list, c)
	}
	return list
}

func TestJoinTold(t *testing.T) { // P10.3
	r := rand.New(rand.NewSource(7))
	taken, cut := 0, 0
	for range 20000 {
		first := small()[r.Intn(8)] - uint32(r.Intn(3))
		list := randomList(r, first)
		j := checkJoin(t, "random chunks", first, list)
		taken += len(j.starts)
		cut += len(list) - len(j.starts)
		if t.Failed() {
			return
		}
	}
	if taken < 20000 || cut < 20000 {
		t.Errorf("%d chunks were taken, %d weren't", taken, cut)
	}
}

func TestJoinMany(t *testing.T) { // P10.3: of many chunks it takes no longer than they are
	var list []api.Chunk
	for i := range 200000 {
		list = append(list, api.Chunk{Number: uint32(i), Offset: uint64(214 * i), Bytes: strings.Repeat("m", 214)})
	}
	if _, stream, starts, _ := Join(0, list); len(stream) != 214*200000 || len(starts) != 200000 {
		t.Errorf("Join has %d bytes of %d chunks", len(stream), len(starts))
	}
}

func TestItemsPlaces(t *testing.T) { // P10.4
	stream := frame("one") + frame("second") + frame("3") + "rest"
	list := []api.Item{{LSN: 0, Bytes: "one"}, {LSN: 9, Bytes: "second"}, {LSN: 21, Bytes: "3"}}
	for _, base := range []uint64{0, 1, 500, 1 << 40, math.MaxUint64 - 32} {
		items := slices.Clone(list)
		for i := range items {
			items[i].LSN += base
		}
		for _, c := range []struct {
			at, n int
			end   int
		}{
			{0, 3, 28}, {9, 2, 28}, {21, 1, 28}, {28, 0, 28},
			{1, 0, 1}, {8, 0, 8}, {10, 0, 10}, {20, 0, 20}, {27, 0, 27}, {29, 0, 29}, {31, 0, 31}, {32, 0, 32},
		} {
			got, end := checkItems(t, "places", base, stream, base+uint64(c.at))
			if !slices.Equal(got, items[3-c.n:]) || end != base+uint64(c.end) {
				t.Errorf("Items from %d on, at %d more = %v, %d", base, c.at, got, end)
			}
		}
	}
}

func TestItemsOutside(t *testing.T) { // P10.4
	s := frame("hi")
	for _, base := range great() {
		for _, at := range append(great(), base-1, base-8, base+8, base+9, base+16) {
			for _, stream := range []string{"", "z", s, s + s, strings.Repeat(s, 3) + "z"} {
				items, end := checkItems(t, "any places", base, stream, at)
				if !stands(base, len(stream), at) && (len(items) != 0 || end != at) {
					t.Errorf("Items(%d, %x, %d) = %v, %d", base, stream, at, items, end)
				}
			}
		}
	}
	// Ahead of base, where a difference that wraps round would be within the stream.
	if items, end := Items(math.MaxUint64, s+s, 7); len(items) != 0 || end != 7 {
		t.Errorf("Items ahead of the greatest base = %v, %d", items, end)
	}
	if items, end := Items(5, s+s, 4); len(items) != 0 || end != 4 {
		t.Errorf("Items ahead of base = %v, %d", items, end)
	}
	if items, end := Items(5, s, 14); len(items) != 0 || end != 14 {
		t.Errorf("Items behind the end = %v, %d", items, end)
	}
	if items, end := Items(5, s, 13); len(items) != 0 || end != 13 {
		t.Errorf("Items at the end = %v, %d", items, end)
	}
}

func TestItemsGreatestBase(t *testing.T) { // P10.4
	s := frame("hi")
	last := uint64(math.MaxUint64)
	for _, c := range []struct {
		base uint64
		end  uint64
	}{
		{last - 9, last - 1}, {last - 8, last}, {last - 7, 0}, {last - 6, 1}, {last, 7}, // places go on within 64 bits
	} {
		items, end := Items(c.base, s, c.base)
		if !slices.Equal(items, []api.Item{{LSN: c.base, Bytes: "hi"}}) || end != c.end {
			t.Errorf("Items from %d on = %v, %d", c.base, items, end)
		}
	}
	if items, end := Items(last-8, s+s, last); !slices.Equal(items, []api.Item{{LSN: last, Bytes: "hi"}}) || end != 7 {
		t.Errorf("Items at the greatest place = %v, %d", items, end)
	}
	if items, end := Items(last, "", last); len(items) != 0 || end != last {
		t.Errorf("Items of nothing at the greatest place = %v, %d", items, end)
	}
}

func TestItemsNoFrame(t *testing.T) { // P10.4
	sum := little(uint64(crc32.ChecksumIEEE([]byte("hi"))), 4)
	wrong := []string{
		"", "\x00", "\x02", "\x02\x00", "\x00\x00", "\x00\x00\x00\x00\x00\x00", "\x00\x00\x00\x00\x00\x00\x00", strings.Repeat("\x00", 1000),
		"\x00\x00" + sum + "hi",
		"\x01\x00" + sum + "hi",
		"\x03\x00" + sum + "hi",
		"\x03\x00" + sum + "hi!",
		"\x00\x02" + sum + "hi", // the highest byte first
		"\x02\x00" + sum + "ho",
		"\x02\x00" + sum + "h",
		"\x02\x00" + sum[:3] + "hi",
		"\x02\x00" + sum[1:] + sum[:1] + "hi",
		"z" + frame("hi"),
		frame("hi")[1:],
	}
	for _, s := range wrong {
		for n, ahead := range []string{"", frame("first")} {
			stream := ahead + s
			if items, end := checkItems(t, "no frame", 50, stream, 50); len(items) != n || end != 50+uint64(len(ahead)) {
				t.Errorf("Items of %x = %v, %d", stream, items, end)
			}
			if items, end := checkItems(t, "no frame", 50, stream+"more", 50+uint64(len(ahead))); len(items) != 0 || end != 50+uint64(len(ahead)) {
				t.Errorf("Items of %x = %v, %d", stream, items, end)
			}
			checkItems(t, "a frame behind it", 50, stream+frame("behind"), 50)
		}
	}
}

// All lengths, with the right sum: those above MaxRec, and 0, are of no frame.
func TestItemsLengths(t *testing.T) { // P10.4
	long := strings.Repeat("l", 1<<16)
	for _, n := range []int{0, 1, 2, 255, 256, 257, 399, 400, 401, 402, 511, 512, 656, 1000, 1<<15 - 1, 1 << 15, 1<<16 - 1} {
		items, end := Items(3, frame(long[:n])+frame("b"), 3)
		want, wantEnd := []api.Item{{LSN: 3, Bytes: long[:n]}, {LSN: 9 + uint64(n), Bytes: "b"}}, uint64(3+6+n+7)
		if n < 1 || n > 400 {
			want, wantEnd = nil, 3
		}
		if !slices.Equal(items, want) || end != wantEnd {
			t.Errorf("Items of a frame of %d bytes: %d items, %d", n, len(items), end)
		}
	}
}

func TestItemsTurnedBits(t *testing.T) { // P10.4
	list := []string{frame("ab"), frame(strings.Repeat("bc", 200)), frame("c")}
	stream, ahead := "", 0
	for _, s := range list {
		stream += s
	}
	for whole, s := range list {
		for i := range len(s) {
			for bit := range 8 {
				turned := []byte(stream)
				turned[ahead+i] ^= 1 << bit
				items, end := checkItems(t, "a turned bit", 10, string(turned), 10)
				if len(items) != whole || end != uint64(10+ahead) {
					t.Fatalf("with another bit in byte %d: %d items, %d", ahead+i, len(items), end)
				}
			}
		}
		ahead += len(s)
	}
}

// Of a stream that was cut just the whole frames are told.
func TestItemsCut(t *testing.T) { // P10.4, P10.5
	r := rand.New(rand.NewSource(8))
	stream, ends := "", []int{0}
	var all []api.Item
	for _, n := range []int{1, 400, 2, 1, 37, 213, 1} {
		s := text(r, n)
		all = append(all, api.Item{LSN: 20 + uint64(len(stream)), Bytes: s})
		stream += Frame(s)
		ends = append(ends, len(stream))
	}
	for cut := range len(stream) + 1 {
		whole := 0
		for whole+1 < len(ends) && ends[whole+1] <= cut {
			whole++
		}
		items, end := Items(20, stream[:cut], 20)
		if !slices.Equal(items, all[:whole]) || end != 20+uint64(ends[whole]) {
			t.Fatalf("cut at %d: %d items, %d", cut, len(items), end)
		}
	}
}

func TestItemsTold(t *testing.T) { // P10.4
	r := rand.New(rand.NewSource(9))
	told := 0
	for range 5000 {
		base := great()[r.Intn(9)]
		stream, places := "", []int{0}
		for range r.Intn(6) {
			s := frame(text(r, 1+r.Intn(405)>>r.Intn(9)))
			switch r.Intn(12) {
			case 0:
				s = s[:r.Intn(len(s))]
			case 1:
				s = text(r, r.Intn(10))
			case 2:
				s = little(uint64(r.Intn(4)), 2) + s[2:]
			}
			stream += s
			places = append(places, len(stream))
		}
		at := places[r.Intn(len(places))]
		if r.Intn(3) == 0 {
			at += r.Intn(5) - 2
		}
		items, _ := checkItems(t, "random frames", base, stream, base+uint64(at))
		told += len(items)
		if t.Failed() {
			return
		}
	}
	if told < 2000 {
		t.Errorf("only %d items were told", told)
	}
}

func TestItemsMany(t *testing.T) { // P10.4: of many frames it takes no longer than they are
	if items, end := Items(0, strings.Repeat(frame("m"), 300000), 0); len(items) != 300000 || end != 7*300000 {
		t.Errorf("%d items, %d", len(items), end)
	}
}

func TestKeep(t *testing.T) { // P10.4
	starts := []api.Start{{Number: 4, Offset: 10}, {Number: 5, Offset: 12}, {Number: 6, Offset: 15}}
	for _, c := range []struct {
		end uint64
		n   int
	}{
		{0, 0}, {9, 0}, {10, 0}, {11, 1}, {12, 1}, {13, 2}, {14, 2}, {15, 2}, {16, 3}, {1 << 40, 3}, {math.MaxUint64, 3},
	} {
		for _, first := range append(small(), 4, math.MaxUint32-2) {
			kept, next := Keep(first, starts, c.end)
			if !slices.Equal(kept, starts[:c.n]) || next != first+uint32(c.n) {
				t.Errorf("Keep(%d, .., %d) = %v, %d", first, c.end, kept, next)
			}
		}
	}
	if kept, next := Keep(math.MaxUint32, starts, 16); len(kept) != 3 || next != 2 {
		t.Errorf("Keep past the greatest number = %v, %d", kept, next)
	}
	for _, first := range small() {
		for _, end := range great() {
			if kept, next := Keep(first, nil, end); len(kept) != 0 || next != first {
				t.Errorf("Keep(%d, no starts, %d) = %v, %d", first, end, kept, next)
			}
		}
	}
}

// What stands behind the first start at the end, or behind it, is not looked at.
func TestKeepFalling(t *testing.T) { // P10.4
	starts := []api.Start{{Number: 9, Offset: 2}, {Number: 3, Offset: 8}, {Number: 3, Offset: 1}, {Number: 0, Offset: 2}}
	if kept, next := Keep(1, starts, 8); !slices.Equal(kept, starts[:1]) || next != 2 {
		t.Errorf("Keep = %v, %d", kept, next)
	}
	if kept, next := Keep(1, starts, 9); !slices.Equal(kept, starts) || next != 5 {
		t.Errorf("Keep = %v, %d", kept, next)
	}
	if kept, next := Keep(1, starts, 2); len(kept) != 0 || next != 1 {
		t.Errorf("Keep = %v, %d", kept, next)
	}
	if kept, next := Keep(1, []api.Start{{Offset: math.MaxUint64}}, math.MaxUint64); len(kept) != 0 || next != 1 {
		t.Errorf("Keep at the greatest end = %v, %d", kept, next)
	}
}

func TestKeepTold(t *testing.T) { // P10.4
	r := rand.New(rand.NewSource(10))
	for range 20000 {
		var starts []api.Start
		at := great()[r.Intn(9)]
		for range r.Intn(8) {
			starts = append(starts, api.Start{Number: r.Uint32(), Offset: at})
			at += uint64(r.Intn(4))
			if r.Intn(10) == 0 {
				at -= uint64(r.Intn(6))
			}
		}
		checkKeep(t, "random starts", small()[r.Intn(8)]-uint32(r.Intn(4)), starts, at-uint64(r.Intn(10)))
	}
}

// blocks are a stream's, from a place on, in chunks of random sizes.
func blocks(r *rand.Rand, epoch, number uint32, base uint64, stream string) []api.Block {
	var list []api.Block
	for at := 0; at < len(stream); {
		n := min(1+r.Intn(214), len(stream)-at)
		b, _ := Pack(api.Chunk{Epoch: epoch, Number: number, Offset: base + uint64(at), Bytes: stream[at : at+n]})
		list = append(list, b)
		at += n
		number++
	}
	return list
}

// unpacked are the chunks of blocks, up to the first that is none.
func unpacked(list []api.Block) []api.Chunk {
	var out []api.Chunk
	for _, b := range list {
		c, ok := Unpack(b)
		if !ok {
			break
		}
		out = append(out, c)
	}
	return out
}

// frames are random texts, and their frames one behind the other.
func frames(r *rand.Rand) ([]string, string) {
	var list []string
	stream := ""
	for range 1 + r.Intn(12) {
		s := text(r, 1+r.Intn(400))
		list = append(list, s)
		stream += Frame(s)
	}
	return list, stream
}

func bytesOf(items []api.Item) []string {
	var list []string
	for _, i := range items {
		list = append(list, i.Bytes)
	}
	return list
}

// What was framed and packed is told again; where a block is torn, the whole frames ahead of it are.
func TestThereAndBack(t *testing.T) { // P10.5
	r := rand.New(rand.NewSource(11))
	for range 500 {
		want, stream := frames(r)
		first, base := r.Uint32()|0xfffffff0, r.Uint64()>>1
		list := blocks(r, 4, first, base, stream)
		j := join(first, unpacked(list))
		if j.base != base || j.stream != stream || len(j.starts) != len(list) || j.epoch != 4 {
			t.Fatalf("Join = %v", j)
		}
		items, end := Items(base, j.stream, base)
		if !slices.Equal(bytesOf(items), want) || end != base+uint64(len(stream)) {
			t.Fatalf("Items tell %d of %d texts", len(items), len(want))
		}
		torn := r.Intn(len(list))
		lost := j.starts[torn].Offset
		list[torn] = mixed(list[torn], api.Block{}, 1+r.Intn(14))
		j = join(first, unpacked(list))
		items, end = Items(j.base, j.stream, j.base)
		n := len(items)
		if torn > 0 && (end > lost || n < len(want) && end+6+uint64(len(want[n])) <= lost) || !slices.Equal(bytesOf(items), want[:n]) {
			t.Fatalf("behind a torn block %d texts are told", n)
		}
	}
}

// A log that goes on behind the whole frames, with a greater epoch, isn't mixed up with what was lost.
func TestGoesOn(t *testing.T) { // P10.3, P10.4, P10.5
	r := rand.New(rand.NewSource(12))
	for range 500 {
		_, stream := frames(r)
		first, base := r.Uint32(), r.Uint64()>>1
		list := blocks(r, 4, first, base, stream)
		cut := 1 + r.Intn(len(list))
		j := join(first, unpacked(list[:cut]))
		told, end := Items(base, j.stream, base)
		kept, next := Keep(first, j.starts, end)
		more, stream := frames(r)
		young := blocks(r, 5, next, end, stream)
		// The young ones stand in the place of elder ones; those that are left stand behind them.
		all := slices.Concat(list[:len(kept)], young)
		if len(all) < len(list) {
			all = append(all, list[len(all):]...)
		}
		j = join(first, unpacked(all))
		if len(j.starts) != len(kept)+len(young) || j.epoch != 5 {
			t.Fatalf("%d blocks are joined of %d and %d", len(j.starts), len(kept), len(young))
		}
		items, _ := Items(j.base, j.stream, j.base)
		if !slices.Equal(bytesOf(items), append(bytesOf(told), more...)) {
			t.Fatalf("Items tell %d of %d and %d texts", len(items), len(told), len(more))
		}
	}
}

// What is handed in stays as it was, its spare room too; what is answered is new memory.
func TestHandedIn(t *testing.T) { // P10.3, P10.4
	room := []api.Chunk{{Number: 1, Bytes: "ab"}, {Number: 2, Offset: 2, Bytes: "cd"}, {Number: 3, Offset: 1, Bytes: "e"}, {Number: 9}}
	was := slices.Clone(room)
	_, _, starts, _ := Join(1, room[:3])
	_, _, again, _ := Join(1, room[:3])
	_ = append(starts, api.Start{Number: 77})
	starts[0].Number = 77
	if !slices.Equal(room, was) || again[0].Number != 1 {
		t.Error("Join has changed what was handed in, or kept it")
	}

	list := []api.Start{{Number: 4, Offset: 1}, {Number: 5, Offset: 2}, {Number: 6, Offset: 3}, {Number: 7, Offset: 4}}
	for _, end := range []uint64{0, 2, 3, 4, 9} {
		kept := slices.Clone(list)
		got, _ := Keep(4, list[:3], end)
		_ = append(got, api.Start{Number: 77})
		for i := range got {
			got[i].Number = 77
		}
		if !slices.Equal(list, kept) {
			t.Errorf("Keep up to %d answers memory that was handed in", end)
		}
	}

	stream := frame("a") + frame("b")
	one, _ := Items(0, stream, 0)
	two, _ := Items(0, stream, 0)
	one[0].Bytes = "z"
	if two[0].Bytes != "a" {
		t.Error("two answers of Items share memory")
	}
}
