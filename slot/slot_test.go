package slot_test

import (
	"bytes"
	"crypto/sha256"
	"encoding/binary"
	"encoding/hex"
	"math"
	"testing"

	"yett/api"
	"yett/slot"
)

const last = 4611686018427387904 // 2^62, the greatest epoch

// dice tells numbers that look thrown, always the same ones from one seed.
type dice uint64

func (d *dice) below(n int) int {
	*d = *d*6364136223846793005 + 1442695040888963407
	return int(uint64(*d) >> 33 % uint64(n))
}

// some are n bytes that look thrown.
func (d *dice) some(n int) []byte {
	out := make([]byte, n)
	for i := range out {
		out[i] = byte(d.below(256))
	}
	return out
}

// epoch is one that often is near an end, or of few bits.
func (d *dice) epoch() int {
	switch d.below(4) {
	case 0:
		return 1 + d.below(4)
	case 1:
		return last - d.below(4)
	case 2:
		return min(last, 1<<d.below(63)+d.below(2))
	}
	return 1 + d.below(1<<31)<<31 | d.below(1<<31)
}

// slot is one of a right store: the record of an epoch, one that was torn, or any bytes.
func (d *dice) slot() []byte {
	out := record(uint64(d.epoch()))
	switch d.below(6) {
	case 0:
		return d.some(16)
	case 1:
		out[d.below(16)] ^= 1 << d.below(8)
	case 2:
		n := d.below(17)
		return append(out[:n:n], record(uint64(d.epoch()))[n:]...)
	}
	return out
}

// record is a number's bytes and what proves them, as the document tells it, also of numbers that are no epochs. (Not as the program lays it.)
func record(n uint64) []byte {
	b := binary.BigEndian.AppendUint64(nil, n)
	all := sha256.Sum256([]byte("yett" + string(b)))
	return append(b, all[:8]...)
}

// good is the epoch of a slot, or 0. (Not as the program finds it.)
func good(b []byte) int {
	if len(b) != 16 {
		return 0
	}
	n := binary.BigEndian.Uint64(b)
	all := sha256.Sum256([]byte("yett" + string(b[:8])))
	if n < 1 || n > last || string(all[:8]) != string(b[8:]) {
		return 0
	}
	return int(n)
}

// best is what Best answers. (Not as the program finds it.)
func best(s api.Store) (int, int, bool) {
	a, b := good(s.A), good(s.B)
	switch {
	case a == 0 && b == 0:
		return 0, 0, false
	case a >= b:
		return a, 0, true
	}
	return b, 1, true
}

// take is what Take answers. (Not as the program finds it.)
func take(s api.Store, cut int) (api.Store, int, api.Errno) {
	n, at, is := best(s)
	switch {
	case !is:
		return s, 0, api.ErrNone
	case n == last:
		return s, 0, api.ErrSpent
	}
	down := cut >= 0 && cut <= 15
	out := [2][]byte{bytes.Clone(s.A), bytes.Clone(s.B)}
	for i, x := range record(uint64(n) + 1) {
		if !down || i < cut {
			out[1-at][i] = x
		}
	}
	if down {
		return api.Store{A: out[0], B: out[1]}, 0, api.ErrDown
	}
	return api.Store{A: out[0], B: out[1]}, n, api.OK
}

// same: are two stores the same? (Not as the program asks it.)
func same(a, b api.Store) bool {
	return string(a.A) == string(b.A) && string(a.B) == string(b.B)
}

// deep is a store in memory of its own, behind whose slots nothing has room.
func deep(s api.Store) api.Store {
	return api.Store{A: bytes.Clone(s.A)[:len(s.A):len(s.A)], B: bytes.Clone(s.B)[:len(s.B):len(s.B)]}
}

// of is a store of two slots: of the epoch, or, where it is 0, of 16 bytes 00.
func of(a, b int) api.Store {
	one := func(n int) []byte {
		if n == 0 {
			return make([]byte, 16)
		}
		return record(uint64(n))
	}
	return api.Store{A: one(a), B: one(b)}
}

// epochs are numbers that are epochs, with their edges.
func epochs() []int {
	out := []int{1, 2, 3, 254, 255, 256, 257, 258, 1<<16 - 1, 1 << 16, 1<<31 - 1, 1 << 31, 1<<32 - 1, 1 << 32, 1<<53 + 1, last - 2, last - 1, last, 0x0102030405060708}
	for i := range 63 {
		out = append(out, 1<<i)
	}
	d := dice(13)
	for range 300 {
		out = append(out, d.epoch())
	}
	return out
}

// noEpochs are numbers that are none.
func noEpochs() []int {
	return []int{0, -1, -2, -255, -256, math.MinInt, math.MinInt + 1, -last, last + 1, last + 2, last + 1<<32, math.MaxInt, math.MaxInt - 1}
}

// stores are right ones.
func stores() []api.Store {
	l := []int{0, 1, 2, 3, 255, 256, 257, last - 1, last}
	var out []api.Store
	for _, a := range l {
		for _, b := range l {
			out = append(out, of(a, b))
		}
	}
	for _, n := range []uint64{0, last + 1, 1<<63 - 1, 1 << 63, 1<<63 + 1, 1<<64 - 1} { // what would be a record, if that were an epoch
		out = append(out, api.Store{A: record(n), B: record(7)}, api.Store{A: record(7), B: record(n)}, api.Store{A: record(n), B: record(n)})
	}
	d := dice(1313)
	for range 600 {
		s := api.Store{A: d.slot(), B: d.slot()}
		if d.below(5) == 0 {
			s.B = bytes.Clone(s.A)
		}
		out = append(out, s)
	}
	return out
}

// wrongs are stores that aren't right.
func wrongs() []api.Store {
	x := record(5)
	out := []api.Store{{}, {A: x}, {B: x}}
	for n := range 40 {
		long := append(record(9), make([]byte, 24)...)[:n]
		if n != 16 {
			out = append(out, api.Store{A: x, B: long}, api.Store{A: long, B: x}, api.Store{A: long, B: long}, api.Store{A: x, B: make([]byte, n)}, api.Store{A: make([]byte, n), B: x})
		}
	}
	return out
}

// cuts are places in which the power may go, and such in which it doesn't.
func cuts() []int {
	out := []int{-1, -2, -16, math.MinInt, 16, 17, 20, 32, 255, 256, 271, 1 << 32, math.MaxInt}
	for i := range 16 {
		out = append(out, i)
	}
	return out
}

// P13.1

func TestRecordOfEpochs(t *testing.T) {
	for _, n := range epochs() {
		if b, e := slot.Record(n); e != api.OK || len(b) != 16 || !bytes.Equal(b, record(uint64(n))) {
			t.Fatalf("Record(%d) = %x, %d", n, b, e)
		}
	}
}

func TestRecordByHand(t *testing.T) {
	for _, x := range []struct {
		n    int
		want string
	}{
		{1, "0000000000000001ae7ff94df09e3a7e"},
		{2, "00000000000000021899b3e609483f5d"},
		{255, "00000000000000ffd9b28be530f2dccd"},
		{256, "0000000000000100941d517c8d63bb12"},
		{258, "000000000000010205827657b1b8328d"},
		{1 << 32, "00000001000000004fddfc04765ad422"},
		{0x0102030405060708, "010203040506070857848b513ea7e457"},
		{last - 1, "3fffffffffffffff046def9036cae180"},
		{last, "400000000000000015666d734ec7e498"},
	} {
		b, e := slot.Record(x.n)
		if e != api.OK || hex.EncodeToString(b) != x.want {
			t.Errorf("Record(%d) = %x, %d", x.n, b, e)
		}
		b, _ = hex.DecodeString(x.want)
		if n, is := slot.Good(b); n != x.n || !is {
			t.Errorf("Good(%s) = %d, %t", x.want, n, is)
		}
	}
}

func TestRecordOfNoEpoch(t *testing.T) {
	for _, n := range noEpochs() {
		if b, e := slot.Record(n); e != api.ErrArg || len(b) != 0 {
			t.Errorf("Record(%d) = %x, %d", n, b, e)
		}
	}
}

func TestGoodIsTheEpoch(t *testing.T) {
	for _, n := range epochs() {
		if m, is := slot.Good(record(uint64(n))); m != n || !is {
			t.Fatalf("Good(%x) = %d, %t", record(uint64(n)), m, is)
		}
	}
}

// no: is it what Good answers of no record?
func no(n int, is bool) bool { return n == 0 && !is }

func TestGoodOfNoEpochsRecord(t *testing.T) {
	for _, n := range []uint64{0, last + 1, last + 2, last << 1, 1<<63 - 1, 1 << 63, 1<<63 + 1, 1<<63 + last, 1<<63 | 5, 1<<64 - 1, 1<<64 - 5} {
		if m, is := slot.Good(record(n)); !no(m, is) {
			t.Errorf("Good(%x) = %d, %t", record(n), m, is)
		}
	}
	if n, is := slot.Good(make([]byte, 16)); !no(n, is) {
		t.Error("16 bytes 00 are a record")
	}
	if n, is := slot.Good(bytes.Repeat([]byte{255}, 16)); !no(n, is) {
		t.Error("16 bytes ff are a record")
	}
}

func TestGoodAsksForEachBit(t *testing.T) {
	for _, n := range epochs()[:90] {
		for bit := range 128 {
			b := record(uint64(n))
			b[bit/8] ^= 1 << (bit % 8)
			if m, is := slot.Good(b); !no(m, is) {
				t.Fatalf("Good(%x) = %d, %t", b, m, is)
			}
		}
	}
}

func TestGoodOfOtherLengths(t *testing.T) {
	for _, n := range []int{1, 258, last} {
		for size := range 64 {
			b := append(record(uint64(n)), make([]byte, 48)...)[:size]
			if m, is := slot.Good(b); is != (size == 16) || !is && m != 0 {
				t.Errorf("Good of %d bytes = %d, %t", size, m, is)
			}
		}
		b := record(uint64(n))
		for _, x := range [][]byte{b[1:], b[8:], append([]byte{0}, b...), append(b[:16:16], b...), append(b[:8:8], b[9:]...)} {
			if m, is := slot.Good(x); !no(m, is) {
				t.Errorf("Good(%x) = %d, %t", x, m, is)
			}
		}
	}
	if n, is := slot.Good(nil); !no(n, is) {
		t.Error("no bytes are a record")
	}
}

func TestGoodOfOtherDigests(t *testing.T) {
	b := binary.BigEndian.AppendUint64(nil, 258)
	bare := sha256.Sum256(b)
	great := sha256.Sum256([]byte("Yett" + string(b)))
	behind := sha256.Sum256([]byte(string(b) + "yett"))
	whole := sha256.Sum256([]byte("yett" + string(b)))
	for _, x := range [][]byte{bare[:8], great[:8], behind[:8], whole[8:16], whole[24:], make([]byte, 8), b} {
		if n, is := slot.Good(append(b[:8:8], x...)); !no(n, is) {
			t.Errorf("Good(%x, %x) = %d, %t", b, x, n, is)
		}
	}
}

func TestGoodOfAnyBytes(t *testing.T) {
	d := dice(131)
	for range 3000 {
		b := d.slot()
		n, is := slot.Good(b)
		if want := good(b); n != want || is != (want > 0) {
			t.Fatalf("Good(%x) = %d, %t", b, n, is)
		}
		b = d.some(d.below(40))
		if n, is := slot.Good(b); !no(n, is) {
			t.Fatalf("Good(%x) = %d, %t", b, n, is)
		}
	}
}

func TestRightOfEachLength(t *testing.T) {
	for a := range 40 {
		for b := range 40 {
			s := api.Store{A: make([]byte, a), B: make([]byte, b)}
			if slot.Right(s) != (a == 16 && b == 16) {
				t.Errorf("slots of %d and %d bytes: %t", a, b, slot.Right(s))
			}
		}
	}
	for _, s := range stores() { // whatever they hold
		if !slot.Right(s) {
			t.Fatalf("%x isn't right", s)
		}
	}
	for _, s := range wrongs() {
		if slot.Right(s) {
			t.Fatalf("%x is right", s)
		}
	}
	if slot.Right(api.Store{A: make([]byte, 16, 64), B: make([]byte, 15, 64)}) || !slot.Right(api.Store{A: make([]byte, 16, 64), B: make([]byte, 16, 64)}) {
		t.Error("room behind a slot counts")
	}
}

func TestSameAsksForBothSlots(t *testing.T) {
	for _, s := range append(stores()[:150], wrongs()...) {
		if !slot.Same(s, s) || !slot.Same(s, deep(s)) || !slot.Same(deep(s), s) {
			t.Fatalf("%x isn't the same as itself", s)
		}
		for i := range len(s.A) {
			x := deep(s)
			x.A[i] ^= 1 << (i % 8)
			if slot.Same(s, x) || slot.Same(x, s) {
				t.Fatalf("%x is the same as %x", s, x)
			}
		}
		for i := range len(s.B) {
			x := deep(s)
			x.B[i] ^= 1 << (i % 8)
			if slot.Same(s, x) || slot.Same(x, s) {
				t.Fatalf("%x is the same as %x", s, x)
			}
		}
	}
}

func TestSameOfAnyTwo(t *testing.T) {
	l := append(stores()[:130], wrongs()...)
	l = append(l, api.Store{A: []byte{}, B: []byte{}}, api.Store{A: []byte{}}, api.Store{A: []byte{1}, B: []byte{2, 3}}, api.Store{A: []byte{1, 2}, B: []byte{3}})
	for _, a := range l {
		for _, b := range l {
			if slot.Same(a, b) != same(a, b) {
				t.Fatalf("Same(%x, %x) is not %t", a, b, same(a, b))
			}
		}
	}
	if !slot.Same(api.Store{}, api.Store{A: []byte{}, B: []byte{}}) {
		t.Error("a list without elements may be nil")
	}
	if slot.Same(of(1, 2), of(2, 1)) {
		t.Error("the slots' places count")
	}
	if slot.Same(api.Store{A: make([]byte, 16)}, api.Store{A: make([]byte, 15)}) {
		t.Error("lengths count")
	}
}

func TestNewIsAStoreOfTheFirstEpoch(t *testing.T) {
	s := slot.New()
	if !bytes.Equal(s.A, record(1)) || !bytes.Equal(s.B, make([]byte, 16)) || !slot.Right(s) {
		t.Errorf("%x", s)
	}
	if n, at, is := slot.Best(s); n != 1 || at != 0 || !is {
		t.Error(n, at, is)
	}
}

// P13.2

func TestBestOfAnyStore(t *testing.T) {
	for _, s := range stores() {
		n, at, is := slot.Best(s)
		if m, in, ok := best(s); n != m || at != in || is != ok {
			t.Fatalf("Best(%x) = %d, %d, %t", s, n, at, is)
		}
	}
}

func TestBestByHand(t *testing.T) {
	for _, x := range []struct {
		a, b, n, at int
		is          bool
	}{
		{1, 0, 1, 0, true}, {0, 1, 1, 1, true}, {0, 0, 0, 0, false},
		{1, 2, 2, 1, true}, {2, 1, 2, 0, true}, {3, 3, 3, 0, true},
		{255, 256, 256, 1, true}, {256, 255, 256, 0, true}, // by size, not by the last byte
		{1 << 32, 1<<32 - 1, 1 << 32, 0, true}, {1<<32 - 1, 1 << 32, 1 << 32, 1, true},
		{last, last - 1, last, 0, true}, {1, last, last, 1, true}, {last, last, last, 0, true},
	} {
		if n, at, is := slot.Best(of(x.a, x.b)); n != x.n || at != x.at || is != x.is {
			t.Errorf("Best of %d and %d = %d, %d, %t", x.a, x.b, n, at, is)
		}
	}
}

func TestBestLeavesOutWhatIsNotGood(t *testing.T) {
	for bit := range 128 {
		s := of(3, 9)
		s.B[bit/8] ^= 1 << (bit % 8)
		if n, at, is := slot.Best(s); n != 3 || at != 0 || !is {
			t.Errorf("behind bit %d of B: %d, %d, %t", bit, n, at, is)
		}
		s = of(9, 3)
		s.A[bit/8] ^= 1 << (bit % 8)
		if n, at, is := slot.Best(s); n != 3 || at != 1 || !is {
			t.Errorf("behind bit %d of A: %d, %d, %t", bit, n, at, is)
		}
		s.B[15-bit/8] ^= 1 << (bit % 8)
		if n, at, is := slot.Best(s); n != 0 || at != 0 || is {
			t.Errorf("behind bit %d of both: %d, %d, %t", bit, n, at, is)
		}
	}
	for _, n := range []uint64{0, last + 1, 1 << 63, 1<<63 | 9, 1<<64 - 1} {
		if m, at, is := slot.Best(api.Store{A: record(n), B: record(2)}); m != 2 || at != 1 || !is {
			t.Errorf("%d is an epoch: %d, %d, %t", n, m, at, is)
		}
		if m, at, is := slot.Best(api.Store{A: record(n), B: record(n)}); m != 0 || at != 0 || is {
			t.Errorf("%d is an epoch: %d, %d, %t", n, m, at, is)
		}
	}
}

// P13.3

func TestTakeOfAnyStore(t *testing.T) {
	for _, s := range stores() {
		for _, cut := range cuts() {
			y, n, e := slot.Take(s, cut)
			if z, m, f := take(s, cut); !same(y, z) || n != m || e != f || !slot.Right(y) {
				t.Fatalf("Take(%x, %d) = %x, %d, %d", s, cut, y, n, e)
			}
		}
	}
}

func TestTakeByHand(t *testing.T) {
	for _, x := range []struct {
		a, b, cut, n, c, d int
		e                  api.Errno
	}{
		{1, 0, -1, 1, 1, 2, api.OK}, {1, 2, -1, 2, 3, 2, api.OK}, {3, 2, 16, 3, 3, 4, api.OK},
		{0, 1, -1, 1, 2, 1, api.OK}, {5, 5, -1, 5, 5, 6, api.OK}, {9, 2, -1, 9, 9, 10, api.OK}, {2, 9, -1, 9, 10, 9, api.OK},
		{255, 254, -1, 255, 255, 256, api.OK}, {last - 1, last - 2, -1, last - 1, last - 1, last, api.OK}, {0, last - 1, 99, last - 1, last, last - 1, api.OK},
		{4, 3, 0, 0, 4, 3, api.ErrDown}, {3, 4, 0, 0, 3, 4, api.ErrDown}, {1, 0, 7, 0, 1, 0, api.ErrDown}, {3, 4, 7, 0, 3, 4, api.ErrDown},
		{last, 0, -1, 0, last, 0, api.ErrSpent}, {last - 1, last, -1, 0, last - 1, last, api.ErrSpent}, {last, last, 16, 0, last, last, api.ErrSpent},
		{last, 1, 0, 0, last, 1, api.ErrSpent}, {1, last, 15, 0, 1, last, api.ErrSpent},
		{0, 0, -1, 0, 0, 0, api.ErrNone}, {0, 0, 0, 0, 0, 0, api.ErrNone}, {0, 0, 15, 0, 0, 0, api.ErrNone}, {0, 0, 16, 0, 0, 0, api.ErrNone},
	} {
		y, n, e := slot.Take(of(x.a, x.b), x.cut)
		if n != x.n || e != x.e || !same(y, of(x.c, x.d)) {
			t.Errorf("Take of %d and %d with cut %d = %x, %d, %d", x.a, x.b, x.cut, y, n, e)
		}
	}
}

func TestTakeLaysJustTheFirstBytes(t *testing.T) {
	for _, old := range [][]byte{make([]byte, 16), bytes.Repeat([]byte{255}, 16), record(6)} {
		for cut := range 16 {
			want := append(record(8)[:cut:cut], old[cut:]...)
			y, n, e := slot.Take(api.Store{A: record(7), B: old}, cut)
			if n != 0 || e != api.ErrDown || !same(y, api.Store{A: record(7), B: want}) {
				t.Errorf("cut %d of B: %x, %d, %d", cut, y, n, e)
			}
			y, n, e = slot.Take(api.Store{A: old, B: record(7)}, cut)
			if n != 0 || e != api.ErrDown || !same(y, api.Store{A: want, B: record(7)}) {
				t.Errorf("cut %d of A: %x, %d, %d", cut, y, n, e)
			}
		}
	}
}

func TestTakeOfTheLastEpochs(t *testing.T) {
	s, n, e := slot.Take(of(last-1, 0), -1)
	if n != last-1 || e != api.OK || !same(s, of(last-1, last)) {
		t.Fatal(s, n, e)
	}
	for _, cut := range cuts() { // what is laid would be no record
		y, n, e := slot.Take(s, cut)
		if n != 0 || e != api.ErrSpent || !same(y, s) {
			t.Errorf("cut %d: %x, %d, %d", cut, y, n, e)
		}
	}
}

func TestTakeOfNoGoodSlot(t *testing.T) {
	d := dice(133)
	for range 50 {
		s := api.Store{A: d.some(16), B: d.some(16)}
		for _, cut := range cuts() {
			if y, n, e := slot.Take(s, cut); n != 0 || e != api.ErrNone || !same(y, s) {
				t.Errorf("Take(%x, %d) = %x, %d, %d", s, cut, y, n, e)
			}
		}
	}
}

func TestTakeWithACutThatLaidAll(t *testing.T) {
	whole := record(8)
	old := append([]byte{}, whole...)
	old[0] ^= 1 // all but this byte are there already, so one byte more makes a record of it
	y, n, e := slot.Take(api.Store{A: record(7), B: old}, 1)
	if n != 0 || e != api.ErrDown || !same(y, of(7, 8)) {
		t.Fatal(y, n, e)
	}
	if y, n, e := slot.Take(y, -1); n != 8 || e != api.OK || !same(y, of(9, 8)) {
		t.Error(y, n, e)
	}
}

// P13.4

func TestEpochsRiseWhereverThePowerGoes(t *testing.T) {
	for seed := range 60 {
		d := dice(seed)
		s, given := slot.New(), 0
		if seed%3 == 1 {
			s = of(255-d.below(3), 250+d.below(9))
		} else if seed%3 == 2 {
			s = of(d.below(9), 1<<32-d.below(4))
		}
		for i := range 80 {
			y, n, e := slot.Take(s, d.below(24)-4)
			if e != api.OK && e != api.ErrDown || (e == api.OK) != (n > given) || e == api.ErrDown && n != 0 {
				t.Fatalf("seed %d, %d: %d behind %d, %d", seed, i, n, given, e)
			}
			s, given = y, max(given, n)
		}
		if n, _, is := slot.Best(s); !is || n <= given {
			t.Fatalf("seed %d: %d would be given again", seed, n)
		}
	}
}

func TestEpochsRiseBehindEachRowOfLosses(t *testing.T) {
	const kinds = 17 // 16 cuts, and none
	for row := range kinds * kinds * kinds {
		s, want := of(255, 0), 255
		for _, cut := range []int{row % kinds, row / kinds % kinds, row / kinds / kinds, 16} {
			y, n, e := slot.Take(s, cut)
			if cut < 16 && (n != 0 || e != api.ErrDown) || cut == 16 && (n != want || e != api.OK) {
				t.Fatalf("row %d: %d, not %d, %d", row, n, want, e)
			}
			if cut == 16 {
				want++
			}
			s = y
		}
	}
}

func TestTheBestSlotIsNeverWritten(t *testing.T) {
	for _, s := range stores() {
		n, at, is := slot.Best(s)
		for _, cut := range cuts() {
			y, _, _ := slot.Take(s, cut)
			if is && at == 0 && !bytes.Equal(y.A, s.A) || is && at == 1 && !bytes.Equal(y.B, s.B) {
				t.Fatalf("Take(%x, %d) writes place %d: %x", s, cut, at, y)
			}
			if m, _, _ := slot.Best(y); m < n {
				t.Fatalf("Take(%x, %d) goes back: %x", s, cut, y)
			}
		}
	}
}

// The examples of the chapter

func TestExamples(t *testing.T) {
	s, n, e := slot.Take(slot.New(), -1)
	if n != 1 || e != api.OK {
		t.Error(n, e)
	}
	if _, n, e = slot.Take(s, -1); n != 2 || e != api.OK {
		t.Error(n, e)
	}
	s, n, e = slot.Take(s, 3)
	if n != 0 || e != api.ErrDown {
		t.Error(n, e)
	}
	if _, n, e = slot.Take(s, -1); n != 2 || e != api.OK {
		t.Error(n, e)
	}
}

// R1, R3 and R4

func TestEachCallEndsAtStoresThatAreNotRight(t *testing.T) {
	for _, s := range wrongs() {
		slot.Best(s)
		for _, cut := range cuts() {
			slot.Take(s, cut)
		}
	}
}

// roomy is a store behind whose slots there is room, and the memory of both.
func roomy(s api.Store) (api.Store, []byte) {
	all := make([]byte, 96)
	for i := range all {
		all[i] = 0xa5
	}
	a, b := all[:len(s.A)], all[48:48+len(s.B)]
	copy(a, s.A)
	copy(b, s.B)
	return api.Store{A: a, B: b}, all
}

func TestWhatIsHandedInStays(t *testing.T) {
	for _, s := range append(stores()[:200], wrongs()...) {
		in, all := roomy(s)
		was := bytes.Clone(all)
		slot.Right(in)
		slot.Best(in)
		slot.Same(in, in)
		slot.Good(in.A)
		slot.Good(in.B)
		for _, cut := range cuts() {
			y, _, _ := slot.Take(in, cut)
			slot.Take(y, cut)
			slot.Take(y, -1)
		}
		if !bytes.Equal(all, was) {
			t.Fatalf("%x became %x", was, all)
		}
	}
}

// scratch writes over all the memory of a list, and that behind it, too.
func scratch(b []byte) {
	b = b[:cap(b)]
	for i := range b {
		b[i] ^= 0xff
	}
}

func TestAnswersAreNewMemory(t *testing.T) {
	for _, s := range stores()[:200] {
		for _, cut := range cuts() {
			in, all := roomy(s)
			was := bytes.Clone(all)
			y, _, _ := slot.Take(in, cut)
			b := bytes.Clone(y.B)
			scratch(y.A)
			if !bytes.Equal(y.B, b) {
				t.Fatal("the slots share memory")
			}
			scratch(y.B)
			if !bytes.Equal(all, was) {
				t.Fatalf("Take(%x, %d) shares memory", s, cut)
			}
		}
	}
	for range 3 {
		s := slot.New()
		if !same(s, of(1, 0)) {
			t.Fatal("New shares memory")
		}
		scratch(s.A)
		if !bytes.Equal(s.B, make([]byte, 16)) {
			t.Fatal("the slots share memory")
		}
		scratch(s.B)
		b, _ := slot.Record(1)
		if !bytes.Equal(b, record(1)) {
			t.Fatal("Record shares memory")
		}
		scratch(b)
	}
}

func TestTheSameIsAnsweredEachTime(t *testing.T) {
	for _, s := range stores()[:150] {
		for _, cut := range []int{-1, 0, 3, 8, 15, 16} {
			a, n, e := slot.Take(s, cut)
			slot.Take(of(3, 4), 5)
			slot.Take(slot.New(), -1)
			if b, m, f := slot.Take(deep(s), cut); !same(a, b) || n != m || e != f {
				t.Fatalf("Take(%x, %d) = %x, %d, %d, and %x, %d, %d", s, cut, a, n, e, b, m, f)
			}
		}
	}
}
