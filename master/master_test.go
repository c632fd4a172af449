package master

import (
	"bytes"
	"encoding/binary"
	"encoding/hex"
	"hash/crc32"
	"math"
	"math/rand"
	"testing"

	"varve/api"
	"varve/disk"
	"varve/seal"
)

const textLen = 48 // bytes of a master's text

// small and great are Configs of which no number can be less, or greater.
var (
	small = api.Config{Pages: 1, Undo: 1, Log: 64}
	great = api.Config{Pages: 16, Undo: 32, Log: 512, MaxTs: math.MaxUint32}
	plain = api.Config{Pages: 2, Undo: 3, Log: 64, MaxTs: 100}
)

// masterOf is an ordinary master.
func masterOf(seq uint64) api.Master {
	return api.Master{Seq: seq, Epoch: 3, Tail: 7, LSN: 900, Last: 44, Config: plain}
}

// greatest is a master of which no number can be greater.
func greatest() api.Master {
	return api.Master{Seq: math.MaxUint64, Epoch: math.MaxUint32, Tail: math.MaxUint32, LSN: math.MaxUint64, Last: math.MaxUint32, Config: great}
}

// mayBe is the chapter's "there may be a master", told anew.
func mayBe(m api.Master) bool {
	c := m.Config
	return !(c.Pages < 1 || c.Pages > 16 || c.Undo < 1 || c.Undo > 32 || c.Log < 64 || c.Log > 512 || m.Last > c.MaxTs)
}

// numbersOf is a master's text without its sum, told anew.
func numbersOf(m api.Master) []byte {
	b := []byte("varve1")
	le := binary.LittleEndian
	b = le.AppendUint64(b, m.Seq)
	b = le.AppendUint32(b, m.Epoch)
	b = le.AppendUint32(b, m.Tail)
	b = le.AppendUint64(b, m.LSN)
	b = le.AppendUint32(b, m.Last)
	b = le.AppendUint16(b, uint16(m.Config.Pages))
	b = le.AppendUint16(b, uint16(m.Config.Undo))
	b = le.AppendUint16(b, uint16(m.Config.Log))
	return le.AppendUint32(b, m.Config.MaxTs)
}

// payloadOf is a text with its sum behind it, and noughts.
func payloadOf(numbers []byte) api.Payload {
	var p api.Payload
	copy(p[:], binary.LittleEndian.AppendUint32(bytes.Clone(numbers), crc32.ChecksumIEEE(numbers)))
	return p
}

// sealed is a payload's block, told anew.
func sealed(stamp uint64, p api.Payload) api.Block {
	var b []byte
	for i := range 4 {
		b = append(b, p[56*i:56*i+56]...)
		b = binary.LittleEndian.AppendUint64(b, stamp)
	}
	return api.Block(b)
}

// blockOf is a master's block, told anew, also of one that may not be.
func blockOf(m api.Master) api.Block {
	return sealed(m.Seq, payloadOf(numbersOf(m)))
}

// masterIn is Unpack, told anew: each part of the block is looked at by itself.
func masterIn(b api.Block) (api.Master, bool) {
	le := binary.LittleEndian
	var p []byte
	for i := range 4 {
		if !bytes.Equal(b[64*i+56:64*i+64], b[56:64]) {
			return api.Master{}, false
		}
		p = append(p, b[64*i:64*i+56]...)
	}
	m := api.Master{
		Seq: le.Uint64(p[6:]), Epoch: le.Uint32(p[14:]), Tail: le.Uint32(p[18:]), LSN: le.Uint64(p[22:]), Last: le.Uint32(p[30:]),
		Config: api.Config{Pages: int(le.Uint16(p[34:])), Undo: int(le.Uint16(p[36:])), Log: int(le.Uint16(p[38:])), MaxTs: le.Uint32(p[40:])},
	}
	right := string(p[:6]) == "varve1" && le.Uint32(p[44:]) == crc32.ChecksumIEEE(p[:44]) &&
		bytes.Count(p[textLen:], []byte{0}) == 224-textLen && le.Uint64(b[56:]) == m.Seq && mayBe(m)
	if !right {
		return api.Master{}, false
	}
	return m, true
}

func wantUnpack(t *testing.T, name string, b api.Block, want api.Master, is bool) {
	t.Helper()
	if m, ok := Unpack(b); m != want || ok != is {
		t.Errorf("%s: Unpack = %+v, %v, want %+v, %v", name, m, ok, want, is)
	}
}

func wantNone(t *testing.T, name string, b api.Block) {
	t.Helper()
	wantUnpack(t, name, b, api.Master{}, false)
}

func wantLoad(t *testing.T, name string, d *disk.Disk, want api.Master, slot int, e api.Errno) {
	t.Helper()
	if m, at, err := Load(d); m != want || at != slot || err != e {
		t.Errorf("%s: Load = %+v, %d, %d, want %+v, %d, %d", name, m, at, err, want, slot, e)
	}
}

func wantStore(t *testing.T, name string, d *disk.Disk, slot int, m api.Master, e api.Errno) {
	t.Helper()
	if err := Store(d, slot, m); err != e {
		t.Errorf("%s: Store in %d = %d, want %d", name, slot, err, e)
	}
}

// wantDisk looks whether a disk is as it should be: its operations, what is pending, and whether the power is off.
func wantDisk(t *testing.T, name string, d *disk.Disk, ops, pending int, down bool) {
	t.Helper()
	if d.Ops() != ops || d.Pending() != pending || d.Down() != down {
		t.Errorf("%s: %d operations, %d pending, down: %v, want %d, %d, %v", name, d.Ops(), d.Pending(), d.Down(), ops, pending, down)
	}
}

// diskOf is a disk whose first blocks last.
func diskOf(t *testing.T, size int, blocks ...api.Block) *disk.Disk {
	t.Helper()
	d := disk.New(size)
	for i, b := range blocks {
		if e := d.Write(i, b); e != api.OK {
			t.Fatalf("Write of %d: %d", i, e)
		}
	}
	d.Sync()
	d.Plan(nil, 0)
	return d
}

// torn is a block of which some sectors are a's, those of the bits of from, and the others b's.
func torn(a, b api.Block, from int) api.Block {
	for i := range 4 {
		if from>>i&1 == 1 {
			b = seal.Lay(b, i, seal.Cut(a, i))
		}
	}
	return b
}

// some are masters of all kinds that there may be.
func some() []api.Master {
	list := []api.Master{{Config: small}, {Config: great}, greatest(), masterOf(0), masterOf(1), masterOf(5), masterOf(math.MaxUint64)}
	base := masterOf(9)
	for _, v := range []uint64{0, 1, 255, 256, 1<<16 - 1, 1 << 16, 1<<31 - 1, 1 << 31, 1<<32 - 1, 1 << 32, 1<<63 - 1, 1 << 63, 1<<64 - 1} {
		for field := range 9 {
			if m := with(base, field, v); mayBe(m) {
				list = append(list, m)
			}
		}
	}
	for _, field := range []int{5, 6, 7} {
		for v := range 513 {
			if m := with(base, field, uint64(v)); mayBe(m) {
				list = append(list, m)
			}
		}
	}
	return list
}

// with is a master with another number in one of its nine fields.
func with(m api.Master, field int, v uint64) api.Master {
	switch field {
	case 0:
		m.Seq = v
	case 1:
		m.Epoch = uint32(v)
	case 2:
		m.Tail = uint32(v)
	case 3:
		m.LSN = v
	case 4:
		m.Last = uint32(v)
		m.Config.MaxTs = max(m.Config.MaxTs, m.Last)
	case 5:
		m.Config.Pages = int(v)
	case 6:
		m.Config.Undo = int(v)
	case 7:
		m.Config.Log = int(v)
	case 8:
		m.Config.MaxTs = uint32(v)
		m.Last = min(m.Last, m.Config.MaxTs)
	}
	return m
}

// wrong are masters that may not be, one number of each being the cause.
func wrong() []api.Master {
	var list []api.Master
	far := []int{math.MinInt, math.MinInt + 1, -1 << 32, -65536, -64, -2, -1, 65536, 65536 + 64, 1 << 32, 1<<32 + 64, math.MaxInt - 1, math.MaxInt}
	for _, v := range append([]int{0, 17, 18, 32, 64}, far...) {
		m := masterOf(5)
		m.Config.Pages = v
		list = append(list, m)
	}
	for _, v := range append([]int{0, 33, 34, 64}, far...) {
		m := masterOf(5)
		m.Config.Undo = v
		list = append(list, m)
	}
	for _, v := range append([]int{0, 1, 16, 32, 62, 63, 513, 514, 1024}, far...) {
		m := masterOf(5)
		m.Config.Log = v
		list = append(list, m)
	}
	for _, most := range []uint32{0, 1, 99, 1 << 31, math.MaxUint32 - 1} {
		for _, last := range []uint32{most + 1, math.MaxUint32} {
			m := masterOf(5)
			m.Config.MaxTs, m.Last = most, last
			list = append(list, m)
		}
	}
	return append(list, api.Master{}, api.Master{Seq: 5})
}

func TestExample(t *testing.T) { // P19.1, P19.3
	if got := Size(api.Config{Pages: 2, Undo: 3, Log: 64, MaxTs: 100}); got != 71 {
		t.Errorf("Size = %d", got)
	}
	c := plain
	c.Log = 63
	if May(api.Master{Config: c}) || Size(c) != 0 {
		t.Error("a Log of 63")
	}
	wantLoad(t, "noughts", disk.New(2), api.Master{}, 0, api.ErrForm)
}

func TestMay(t *testing.T) { // P19.1
	edges := []int{math.MinInt, math.MinInt + 1, -65535, -512, -64, -17, -1, 0, 1, 2, 15, 16, 17, 31, 32, 33, 63, 64, 65, 511, 512, 513, 65536 + 64, math.MaxInt - 1, math.MaxInt}
	stamps := []uint32{0, 1, 2, 99, 100, 101, 1<<31 - 1, 1 << 31, math.MaxUint32 - 1, math.MaxUint32}
	for _, pages := range edges {
		for _, undo := range edges {
			for _, size := range edges {
				c := api.Config{Pages: pages, Undo: undo, Log: size, MaxTs: 100}
				right := mayBe(api.Master{Config: c})
				want := 0
				if right {
					want = 2 + pages + undo + size
				}
				if got := May(api.Master{Config: c}); got != right {
					t.Errorf("May with %+v = %v", c, got)
				}
				if got := Size(c); got != want {
					t.Errorf("Size of %+v = %d, want %d", c, got, want)
				}
			}
		}
	}
	for _, most := range stamps {
		for _, last := range stamps {
			m := masterOf(4)
			m.Last, m.Config.MaxTs = last, most
			if got := May(m); got != (last <= most) {
				t.Errorf("May of Last %d, MaxTs %d = %v", last, most, got)
			}
		}
		c := plain
		c.MaxTs = most
		if got := Size(c); got != 71 { // the Last that isn't handed in is 0
			t.Errorf("Size with MaxTs %d = %d", most, got)
		}
	}
}

func TestMayOthers(t *testing.T) { // P19.1: no other number makes a difference
	for _, m := range some() {
		if !May(m) {
			t.Errorf("May of %+v = false", m)
		}
	}
	for _, m := range wrong() {
		for _, other := range []api.Master{{}, greatest()} {
			other.Last, other.Config = m.Last, m.Config
			if May(m) || May(other) {
				t.Errorf("May of %+v = true", m)
			}
		}
	}
}

func TestSizes(t *testing.T) { // P19.1
	for _, x := range []struct {
		c    api.Config
		want int
	}{
		{small, 68}, {great, 562}, {plain, 71}, {api.Config{}, 0},
		{api.Config{Pages: 16, Undo: 1, Log: 64}, 83}, {api.Config{Pages: 17, Undo: 1, Log: 64}, 0}, {api.Config{Undo: 1, Log: 64}, 0},
		{api.Config{Pages: 1, Undo: 32, Log: 64}, 99}, {api.Config{Pages: 1, Undo: 33, Log: 64}, 0}, {api.Config{Pages: 1, Log: 64}, 0},
		{api.Config{Pages: 1, Undo: 1, Log: 512}, 516}, {api.Config{Pages: 1, Undo: 1, Log: 513}, 0}, {api.Config{Pages: 1, Undo: 1, Log: 63}, 0},
		{api.Config{Pages: math.MaxInt, Undo: math.MaxInt, Log: 64}, 0}, {api.Config{Pages: math.MinInt, Undo: math.MinInt, Log: 512}, 0},
	} {
		if got := Size(x.c); got != x.want {
			t.Errorf("Size of %+v = %d, want %d", x.c, got, x.want)
		}
	}
}

func TestPackBytes(t *testing.T) { // P19.2: the text as the chapter lays it, byte by byte
	m := api.Master{
		Seq: 0x0807060504030201, Epoch: 0x14131211, Tail: 0x24232221, LSN: 0x3837363534333231, Last: 0x44434241,
		Config: api.Config{Pages: 16, Undo: 32, Log: 0x0102, MaxTs: 0x54535251},
	}
	text, err := hex.DecodeString("766172766531" + "0102030405060708" + "11121314" + "21222324" + "3132333435363738" + "41424344" + "1000" + "2000" + "0201" + "51525354")
	if err != nil {
		t.Fatal(err)
	}
	sum := crc32.ChecksumIEEE(text)
	text = append(text, byte(sum), byte(sum>>8), byte(sum>>16), byte(sum>>24))
	b, e := Pack(m)
	if e != api.OK {
		t.Fatalf("Pack = %d", e)
	}
	if len(text) != textLen || string(b[:textLen]) != string(text) {
		t.Errorf("the text is %x, want %x", b[:textLen], text)
	}
	for i, c := range b[textLen:] {
		at := textLen + i
		want := byte(0)
		if at%64 >= 56 {
			want = byte(at%64 - 55)
		}
		if c != want {
			t.Errorf("the byte %d is %d, want %d", at, c, want)
		}
	}
}

func TestPack(t *testing.T) { // P19.2
	for _, m := range some() {
		b, e := Pack(m)
		if e != api.OK || b != blockOf(m) {
			t.Errorf("Pack of %+v = %x, %d", m, b, e)
		}
		stamp, p, ok := seal.Open(b)
		if !ok || stamp != m.Seq || p != payloadOf(numbersOf(m)) {
			t.Errorf("Pack of %+v: the stamp is %d, %v", m, stamp, ok)
		}
		wantUnpack(t, "packed", b, m, true)
	}
	for _, m := range wrong() {
		if b, e := Pack(m); e != api.ErrArg || b != (api.Block{}) {
			t.Errorf("Pack of %+v = %x, %d", m, b, e)
		}
	}
}

func TestUnpackBroken(t *testing.T) { // P19.2: whichever bit is turned, in a block of its own or in all of its stamps
	wantNone(t, "noughts", api.Block{})
	for _, m := range []api.Master{{Config: small}, masterOf(5), greatest()} {
		b := blockOf(m)
		wantUnpack(t, "whole", b, m, true)
		for i := range b {
			for bit := range 8 {
				x := b
				x[i] ^= 1 << bit
				wantNone(t, "a bit", x)
			}
		}
		_, p, _ := seal.Open(b)
		for bit := range 64 {
			wantNone(t, "another stamp", seal.Seal(m.Seq^1<<bit, p))
		}
		for from := range 16 {
			x := torn(b, blockOf(masterOf(6)), from)
			y := torn(b, api.Block{}, from)
			if from == 15 || from == 0 {
				continue
			}
			wantNone(t, "torn", x)
			if m.Seq != 0 {
				wantNone(t, "torn, noughts", y)
			}
		}
	}
}

func TestUnpackSum(t *testing.T) { // P19.2: bytes that differ, with the right sum behind them
	m := masterOf(5)
	for i := range textLen - 4 {
		for bit := range 8 {
			numbers := numbersOf(m)
			numbers[i] ^= 1 << bit
			b := sealed(m.Seq, payloadOf(numbers))
			if i < 14 { // the letters, or a Seq that isn't the stamp
				wantNone(t, "another byte", b)
				continue
			}
			want, is := masterIn(b)
			wantUnpack(t, "another number", b, want, is)
		}
	}
	for _, s := range []string{"varve0", "varve2", "Varve1", "VARVE1", "varve\x00", "\x00arve1", "1evrav", "\x00\x00\x00\x00\x00\x00"} {
		wantNone(t, s, sealed(m.Seq, payloadOf(append([]byte(s), numbersOf(m)[6:]...))))
	}
}

func TestUnpackWrongSum(t *testing.T) { // P19.2: sums of something else than the chapter says
	m := masterOf(5)
	numbers := numbersOf(m)
	right := crc32.ChecksumIEEE(numbers)
	for _, sum := range []uint32{0, ^right, right + 1, right - 1, crc32.ChecksumIEEE(numbers[6:]), crc32.ChecksumIEEE(append(bytes.Clone(numbers), 0, 0, 0, 0)), right<<24 | right>>8} {
		var p api.Payload
		copy(p[:], binary.LittleEndian.AppendUint32(bytes.Clone(numbers), sum))
		wantNone(t, "another sum", seal.Seal(m.Seq, p))
	}
	var p api.Payload
	copy(p[:], binary.BigEndian.AppendUint32(bytes.Clone(numbers), right))
	wantNone(t, "the highest byte first", seal.Seal(m.Seq, p))
}

func TestUnpackBehind(t *testing.T) { // P19.2: noughts, and nothing else, stand behind the text
	m := masterOf(5)
	for i := textLen; i < 224; i++ {
		for _, c := range []byte{1, 128, 255} {
			p := payloadOf(numbersOf(m))
			p[i] = c
			wantNone(t, "a byte behind the text", seal.Seal(m.Seq, p))
		}
	}
}

func TestUnpackMayNot(t *testing.T) { // P19.2: a block as whole as can be, of a master that may not be
	for _, m := range wrong() {
		b := blockOf(m)
		low := m
		low.Config.Pages &= 0xffff
		low.Config.Undo &= 0xffff
		low.Config.Log &= 0xffff
		if mayBe(low) { // of a number with more than two bytes the two lowest may do
			wantUnpack(t, "low", b, low, true)
			continue
		}
		wantNone(t, "may not be", b)
	}
}

func TestUnpackRandom(t *testing.T) { // P19.2: held against the chapter told anew
	r := rand.New(rand.NewSource(19))
	whole := 0
	for range 40000 {
		m := randomMaster(r)
		numbers := numbersOf(m)
		if r.Intn(3) == 0 {
			numbers[r.Intn(len(numbers))] = byte(r.Intn(256))
		}
		p := payloadOf(numbers)
		if r.Intn(4) == 0 {
			p[r.Intn(len(p))] ^= byte(r.Intn(2))
		}
		stamp := m.Seq
		if r.Intn(6) == 0 {
			stamp = uint64(r.Intn(4))
		}
		b := seal.Seal(stamp, p)
		if r.Intn(4) == 0 {
			b[r.Intn(len(b))] = byte(r.Intn(2))
		}
		want, is := masterIn(b)
		wantUnpack(t, "random", b, want, is)
		if is {
			whole++
			if again, e := Pack(want); again != b || e != api.OK {
				t.Errorf("Pack of %+v isn't its block", want)
			}
		}
	}
	if whole < 4000 || whole > 36000 {
		t.Errorf("%d blocks of 40000 were masters'", whole)
	}
}

// randomMaster is a master whose numbers are small or great, and that mostly may be.
func randomMaster(r *rand.Rand) api.Master {
	number := func() uint64 {
		return r.Uint64() >> r.Intn(64)
	}
	m := api.Master{
		Seq: number(), Epoch: uint32(number()), Tail: uint32(number()), LSN: number(),
		Config: api.Config{Pages: 1 + r.Intn(16), Undo: 1 + r.Intn(32), Log: 64 + r.Intn(449), MaxTs: uint32(number())},
	}
	m.Last = uint32(r.Int63n(int64(m.Config.MaxTs) + 1))
	if r.Intn(3) == 0 {
		m.Seq = uint64(r.Intn(4))
	}
	switch r.Intn(20) {
	case 0:
		m.Config.Pages = r.Intn(20)
	case 1:
		m.Config.Undo = r.Intn(40)
	case 2:
		m.Config.Log = r.Intn(600)
	case 3:
		m.Last = uint32(number())
	}
	return m
}

func TestLoadNoDisk(t *testing.T) { // P19.3
	wantLoad(t, "nil", nil, api.Master{}, 0, api.ErrDown)
	wantLoad(t, "no blocks", disk.New(0), api.Master{}, 0, api.ErrDown)
	one := diskOf(t, 1, blockOf(masterOf(5)))
	wantLoad(t, "one block", one, api.Master{}, 0, api.ErrArg) // there is no block 1 to be read
	wantDisk(t, "one block", one, 1, 0, false)
	one.Plan([]int{1}, 0)
	wantLoad(t, "one block that fails", one, api.Master{}, 0, api.ErrIO)
	one.Plan(nil, 1)
	wantLoad(t, "one block, the power goes", one, api.Master{}, 0, api.ErrDown)
	wantLoad(t, "one block, without power", one, api.Master{}, 0, api.ErrDown)
}

// kinds are blocks that a disk may have at its beginning.
func kinds() []api.Block {
	elder, newer := masterOf(4), masterOf(5)
	other := newer
	other.LSN = 17
	bad := newer
	bad.Config.Log = 63
	return []api.Block{
		{}, blockOf(elder), blockOf(newer), blockOf(other), blockOf(masterOf(0)), blockOf(greatest()), blockOf(bad),
		torn(blockOf(elder), blockOf(newer), 3), torn(blockOf(newer), api.Block{}, 1), sealed(9, payloadOf(numbersOf(newer))),
	}
}

// loaded is Load, told anew, of a disk that fails nowhere.
func loaded(first, second api.Block) (api.Master, int, api.Errno) {
	m, ok := masterIn(first)
	n, is := masterIn(second)
	if !ok && !is {
		return api.Master{}, 0, api.ErrForm
	}
	if ok && is && n.Seq > m.Seq || !ok {
		return n, 1, api.OK
	}
	return m, 0, api.OK
}

func TestLoad(t *testing.T) { // P19.3
	a, b := masterOf(4), masterOf(5)
	twin := b
	twin.Epoch = 77
	for _, x := range []struct {
		name          string
		first, second api.Block
		want          api.Master
		slot          int
		e             api.Errno
	}{
		{"noughts", api.Block{}, api.Block{}, api.Master{}, 0, api.ErrForm},
		{"the first alone", blockOf(a), api.Block{}, a, 0, api.OK},
		{"the second alone", api.Block{}, blockOf(a), a, 1, api.OK},
		{"the newer one first", blockOf(b), blockOf(a), b, 0, api.OK},
		{"the newer one second", blockOf(a), blockOf(b), b, 1, api.OK},
		{"alike", blockOf(b), blockOf(twin), b, 0, api.OK},
		{"alike, the other way round", blockOf(twin), blockOf(b), twin, 0, api.OK},
		{"Seq 0", blockOf(masterOf(0)), api.Block{}, masterOf(0), 0, api.OK},
		{"Seq 0 second", api.Block{}, blockOf(masterOf(0)), masterOf(0), 1, api.OK},
		{"Seq 0 and 1", blockOf(masterOf(0)), blockOf(masterOf(1)), masterOf(1), 1, api.OK},
		{"the greatest Seq", blockOf(masterOf(1 << 63)), blockOf(greatest()), greatest(), 1, api.OK},
		{"half of the Seqs", blockOf(masterOf(1 << 63)), blockOf(masterOf(1<<63 - 1)), masterOf(1 << 63), 0, api.OK},
		{"the first one torn", torn(blockOf(b), api.Block{}, 7), blockOf(a), a, 1, api.OK},
		{"the second one torn", blockOf(a), torn(blockOf(b), api.Block{}, 14), a, 0, api.OK},
		{"both torn", torn(blockOf(b), blockOf(a), 1), torn(blockOf(b), blockOf(a), 8), api.Master{}, 0, api.ErrForm},
	} {
		d := diskOf(t, 2, x.first, x.second)
		for range 2 { // it can be asked again
			wantLoad(t, x.name, d, x.want, x.slot, x.e)
		}
		wantDisk(t, x.name, d, 4, 0, false)
	}
}

func TestLoadFaults(t *testing.T) { // P19.3: all kinds of blocks, and an operation that fails or at which the power goes
	for _, first := range kinds() {
		for _, second := range kinds() {
			for _, size := range []int{2, 3, 71} {
				want, slot, e := loaded(first, second)
				d := diskOf(t, size, first, second)
				wantLoad(t, "whole", d, want, slot, e)
				for _, x := range []struct {
					fails []int
					fuse  int
					e     api.Errno
					ops   int
				}{
					{[]int{1}, 0, api.ErrIO, 1}, {[]int{2}, 0, api.ErrIO, 2}, {[]int{1, 2}, 0, api.ErrIO, 1},
					{nil, 1, api.ErrDown, 1}, {nil, 2, api.ErrDown, 2}, {[]int{1}, 2, api.ErrIO, 1}, {[]int{2}, 1, api.ErrDown, 1},
				} {
					d.Plan(x.fails, x.fuse)
					wantLoad(t, "a fault", d, api.Master{}, 0, x.e)
					wantDisk(t, "a fault", d, x.ops, 0, x.e == api.ErrDown)
					if x.e == api.ErrDown {
						wantLoad(t, "without power", d, api.Master{}, 0, api.ErrDown)
						wantDisk(t, "without power", d, x.ops, 0, true)
						d.Crash(nil)
					}
					d.Plan([]int{3}, 4) // only the two are read
					wantLoad(t, "behind a fault", d, want, slot, e)
					wantDisk(t, "behind a fault", d, 2, 0, false)
				}
			}
		}
	}
}

func TestLoadSeen(t *testing.T) { // P19.3: what was written is read, whether or not it lasts, and nothing is written
	d := diskOf(t, 3, blockOf(masterOf(4)), blockOf(masterOf(5)), blockOf(masterOf(9)))
	d.Write(0, blockOf(masterOf(6)))
	wantLoad(t, "pending", d, masterOf(6), 0, api.OK)
	if d.Sure(0) != blockOf(masterOf(4)) || d.Seen(0) != blockOf(masterOf(6)) || d.Pending() != 4 {
		t.Error("Load has changed the disk")
	}
	d.Crash(nil)
	wantLoad(t, "nothing kept", d, masterOf(5), 1, api.OK)
}

func TestStoreWrong(t *testing.T) { // P19.4: nothing is written, and the disk isn't asked
	held := []api.Block{blockOf(masterOf(4)), blockOf(masterOf(5)), blockOf(masterOf(6))}
	slots := []int{math.MinInt, math.MinInt + 1, -1 << 32, -3, -2, -1, 2, 3, 4, 1 << 32, 1<<32 + 1, math.MaxInt - 1, math.MaxInt}
	right := []api.Master{masterOf(8), greatest(), {Config: small}}
	for _, on := range []bool{true, false} {
		d := diskOf(t, 3, held...)
		if !on {
			d.Plan(nil, 1)
			d.Sync()
			d.Plan(nil, 0)
		}
		for _, slot := range slots {
			for _, m := range append(wrong(), right...) {
				wantStore(t, "a wrong slot", d, slot, m, api.ErrArg)
				wantStore(t, "a wrong slot without a disk", nil, slot, m, api.ErrArg)
			}
		}
		for _, slot := range []int{0, 1} {
			for _, m := range wrong() {
				wantStore(t, "may not be", d, slot, m, api.ErrArg)
				wantStore(t, "may not be, without a disk", nil, slot, m, api.ErrArg)
			}
			for _, m := range right {
				wantStore(t, "without a disk", nil, slot, m, api.ErrDown)
				wantStore(t, "no blocks", disk.New(0), slot, m, api.ErrDown)
			}
		}
		wantDisk(t, "wrong", d, 0, 0, !on)
		for i, b := range held {
			if d.Seen(i) != b || d.Sure(i) != b {
				t.Errorf("the block %d was written", i)
			}
		}
	}
}

func TestStore(t *testing.T) { // P19.4
	for _, slot := range []int{0, 1} {
		for _, size := range []int{2, 3, 2048} {
			for _, m := range some() {
				held := []api.Block{blockOf(masterOf(4)), blockOf(masterOf(5))}
				if size > 2 {
					held = append(held, blockOf(masterOf(6)))
				}
				d := diskOf(t, size, held...)
				wantStore(t, "Store", d, slot, m, api.OK)
				wantDisk(t, "Store", d, 2, 0, false)
				held[slot] = blockOf(m)
				for i, b := range held {
					if d.Sure(i) != b || d.Seen(i) != b {
						t.Errorf("Store of %+v in %d: the block %d is %x", m, slot, i, d.Sure(i))
					}
				}
				d.Crash(nil)
				want, at, _ := loaded(held[0], held[1])
				wantLoad(t, "Store", d, want, at, api.OK)
			}
		}
	}
}

func TestStoreOneBlock(t *testing.T) { // P19.4
	d := disk.New(1)
	wantStore(t, "there is no block 1", d, 1, masterOf(5), api.ErrArg)
	wantDisk(t, "there is no block 1", d, 0, 0, false)
	wantStore(t, "the block 0", d, 0, masterOf(5), api.OK)
	if d.Sure(0) != blockOf(masterOf(5)) {
		t.Error("the block 0 isn't stored")
	}
}

func TestStoreFaults(t *testing.T) { // P19.4: the first error is the answer, and nothing is asked behind it
	old, new := blockOf(masterOf(5)), blockOf(masterOf(6))
	for _, slot := range []int{0, 1} {
		for _, x := range []struct {
			name    string
			fails   []int
			fuse    int
			e       api.Errno
			ops     int
			pending int
		}{
			{"the write fails", []int{1}, 0, api.ErrIO, 1, 0},
			{"the sync fails", []int{2}, 0, api.ErrIO, 2, 4},
			{"both fail", []int{1, 2}, 0, api.ErrIO, 1, 0},
			{"the power goes at the write", nil, 1, api.ErrDown, 1, 0},
			{"the power goes at the sync", nil, 2, api.ErrDown, 2, 4},
			{"the write fails ahead of the power", []int{1}, 2, api.ErrIO, 1, 0},
			{"the power goes behind it", []int{3}, 3, api.OK, 2, 0},
		} {
			d := diskOf(t, 2, old, old)
			d.Plan(x.fails, x.fuse)
			wantStore(t, x.name, d, slot, masterOf(6), x.e)
			wantDisk(t, x.name, d, x.ops, x.pending, x.e == api.ErrDown)
			seen, sure := old, old
			if x.pending > 0 || x.e == api.OK {
				seen = new
			}
			if x.e == api.OK {
				sure = new
			}
			if d.Seen(slot) != seen || d.Sure(slot) != sure || d.Seen(1-slot) != old || d.Sure(1-slot) != old {
				t.Errorf("%s: the blocks are others", x.name)
			}
			if x.e == api.ErrDown {
				wantStore(t, "without power", d, slot, masterOf(6), api.ErrDown)
				wantDisk(t, "without power", d, x.ops, x.pending, true)
				d.Crash(nil)
			}
			d.Plan(nil, 0)
			wantStore(t, "asked again", d, slot, masterOf(6), api.OK)
			wantLoad(t, "asked again", d, masterOf(6), slot, api.OK)
		}
	}
}

func TestStoreSyncsAll(t *testing.T) { // P19.4: the whole disk is synced
	d := disk.New(5)
	d.Write(4, blockOf(masterOf(1)))
	wantStore(t, "Store", d, 1, masterOf(2), api.OK)
	if d.Pending() != 0 || d.Sure(4) != blockOf(masterOf(1)) {
		t.Error("another block's write is pending")
	}
}

// keepOf is which writes a crash keeps: those of the bits of a number.
func keepOf(bits int) []bool {
	var keep []bool
	for i := range 4 {
		keep = append(keep, bits>>i&1 == 1)
	}
	return keep
}

// storeBroken stores the newer master in the other slot than the one that Load tells, lets the power go at an
// operation, keeps some sectors, and answers what Store and Load told.
func storeBroken(t *testing.T, blocks [2]api.Block, slot, fuse, bits int, newer api.Master) (stored api.Errno, m api.Master, at int) {
	t.Helper()
	d := diskOf(t, 2, blocks[0], blocks[1])
	if _, at, e := Load(d); e != api.OK || at == slot {
		t.Fatalf("Load = %d, %d ahead of a Store in %d", at, e, slot)
	}
	d.Plan(nil, fuse)
	stored = Store(d, slot, newer)
	d.Crash(keepOf(bits))
	for n := range 2 { // however often loading is broken off
		d.Plan(nil, 1+n)
		wantLoad(t, "the power goes while it is loaded", d, api.Master{}, 0, api.ErrDown)
		d.Crash(nil)
	}
	m, at, e := Load(d)
	if e != api.OK {
		t.Errorf("fuse %d, kept %04b: Load = %d", fuse, bits, e)
	}
	return stored, m, at
}

func TestPower(t *testing.T) { // P19.5: at each operation, each sector kept or not, whatever stood in the other block
	eldest, elder, newer := masterOf(4), masterOf(5), masterOf(6)
	others := []api.Block{{}, blockOf(eldest), torn(blockOf(eldest), blockOf(masterOf(3)), 5), blockOf(masterOf(0)), blockOf(masterOf(5)), sealed(6, api.Payload{})}
	for from := range 15 { // the same master, whose Store was broken off ahead of this one
		others = append(others, torn(blockOf(newer), blockOf(eldest), from), torn(blockOf(newer), api.Block{}, from))
	}
	for slot := range 2 {
		for i, other := range others {
			blocks := [2]api.Block{blockOf(elder), other}
			if slot == 0 {
				if i == 4 {
					continue // of two alike Load tells the block 0
				}
				blocks = [2]api.Block{other, blockOf(elder)}
			}
			for fuse := range 4 {
				for bits := range 16 {
					wantPower(t, blocks, slot, fuse, bits, elder, newer)
				}
			}
		}
	}
}

func wantPower(t *testing.T, blocks [2]api.Block, slot, fuse, bits int, elder, newer api.Master) {
	t.Helper()
	stored, m, at := storeBroken(t, blocks, slot, fuse, bits, newer)
	if goes := fuse == 1 || fuse == 2; goes != (stored == api.ErrDown) || goes == (stored == api.OK) {
		t.Errorf("Store with the fuse %d = %d", fuse, stored)
	}
	isOlder := m == elder && at == 1-slot
	isNewer := m == newer && at == slot
	if !isOlder && !isNewer {
		t.Errorf("fuse %d, kept %04b: Load = %+v, %d", fuse, bits, m, at)
	}
	if stored == api.OK && !isNewer {
		t.Errorf("fuse %d, kept %04b: the newer one was stored, and isn't told", fuse, bits)
	}
	if fuse == 1 && !isOlder {
		t.Errorf("kept %04b: nothing was written, and the older one isn't told", bits)
	}
	if fuse == 2 && bits == 15 && !isNewer {
		t.Error("all was kept, and the newer one isn't told")
	}
}

// Where a Store of another master with the very same Seq was broken off in the other block, that one's text may stand
// there already, and become whole by the sectors behind it: their bytes are the same ones. No block can tell that.
func TestPowerAlike(t *testing.T) { // P19.5: even then Load tells a master that was to be stored, and never a mixture
	elder, newer := masterOf(5), masterOf(6)
	broken := newer
	broken.LSN, broken.Tail = 33, 12
	for from := range 15 {
		blocks := [2]api.Block{blockOf(elder), torn(blockOf(broken), blockOf(masterOf(4)), from)}
		for fuse := range 4 {
			for bits := range 16 {
				stored, m, at := storeBroken(t, blocks, 1, fuse, bits, newer)
				if !(m == elder && at == 0) && !(m == newer && at == 1) && !(m == broken && at == 1) {
					t.Errorf("of %04b, fuse %d, kept %04b: Load = %+v, %d", from, fuse, bits, m, at)
				}
				if stored == api.OK && m != newer {
					t.Errorf("of %04b, fuse %d, kept %04b: the newer one was stored, and isn't told", from, fuse, bits)
				}
			}
		}
	}
}

func TestPowerRandom(t *testing.T) { // P19.5: by turns, again and again, with crashes between
	r := rand.New(rand.NewSource(195))
	for range 300 {
		d := disk.New(2)
		last := masterOf(1)
		wantStore(t, "the first one", d, r.Intn(2), last, api.OK)
		next := last
		for range 40 {
			m, at, e := Load(d)
			if m != last || e != api.OK {
				t.Fatalf("Load = %+v, %d, want %+v", m, e, last)
			}
			if next == last || r.Intn(2) == 0 { // else what was broken off is stored again
				seq := next.Seq + 1 + uint64(r.Intn(2))
				next = randomMaster(r)
				next.Config, next.Last = great, uint32(r.Intn(100))
				next.Seq = seq
			}
			d.Plan(nil, r.Intn(4))
			e = Store(d, 1-at, next)
			d.Crash(keepOf(r.Intn(16)))
			m, _, err := Load(d)
			if err != api.OK || m != last && m != next || e == api.OK && m != next {
				t.Fatalf("Store = %d, then Load = %+v, %d, want %+v or %+v", e, m, err, last, next)
			}
			last = m
		}
	}
}

func TestAlone(t *testing.T) { // rule 6: disks, and calls, know nothing of each other
	a, b := disk.New(2), disk.New(2)
	wantStore(t, "one", a, 0, masterOf(5), api.OK)
	wantLoad(t, "the other", b, api.Master{}, 0, api.ErrForm)
	wantStore(t, "the other", b, 1, masterOf(4), api.OK)
	wantLoad(t, "one", a, masterOf(5), 0, api.OK)
	wantLoad(t, "the other", b, masterOf(4), 1, api.OK)
	x, y := blockOf(masterOf(7)), blockOf(greatest())
	for range 2 {
		wantUnpack(t, "one", x, masterOf(7), true)
		wantUnpack(t, "the other", y, greatest(), true)
		wantNone(t, "noughts", api.Block{})
	}
}
