package bitmap_test

import (
	"bytes"
	"math"
	"slices"
	"strconv"
	"strings"
	"testing"

	"yett/api"
	"yett/bitmap"
	"yett/dig"
)

// field: may a number stand in a list?
func field(n int) bool { return n >= 2 && n <= 64 || n >= 66 && n <= 128 }

// fields are all the numbers that may stand in a list.
func fields() []int {
	var out []int
	for n := range 200 {
		if field(n) {
			out = append(out, n)
		}
	}
	return out
}

// noFields are numbers that may stand in no list: neighbours of such that may, and far ones.
func noFields() []int {
	return []int{math.MinInt, math.MinInt + 2, -1<<32 + 2, -254, -129, -128, -66, -65, -64, -2, -1, 0, 1, 65, 129, 130, 193, 255, 256, 258, 256 + 70, 1<<16 + 2, 1<<32 + 2, 1<<32 + 70, math.MaxInt - 1, math.MaxInt}
}

// signs are the bits of a right list, a sign each, as the document tells them.
func signs(l []int) string {
	out := []byte(strings.Repeat("0", 64))
	if len(l) > 0 && slices.Max(l) > 64 {
		out = []byte("1" + strings.Repeat("0", 127))
	}
	for _, n := range l {
		out[n-1] = '1'
	}
	return string(out)
}

// packed are signs 0 and 1 as bytes.
func packed(signs string) []byte {
	var out []byte
	for i := 0; i < len(signs); i += 8 {
		x, err := strconv.ParseUint(signs[i:i+8], 2, 8)
		if err != nil {
			panic(err)
		}
		out = append(out, byte(x))
	}
	return out
}

// dice tells numbers that look thrown, always the same ones from one seed.
type dice uint64

func (d *dice) below(n int) int {
	*d = *d*6364136223846793005 + 1442695040888963407
	return int(uint64(*d) >> 33 % uint64(n))
}

// lists are right lists: short ones, full ones, and thrown ones.
func lists() [][]int {
	all := fields()
	out := [][]int{nil, {}, all, all[:63], all[63:], all[1:], all[:125], {2, 64}, {64, 66}, {2, 66}, {2, 128}, {66, 128}, {2, 64, 66, 128}}
	for _, n := range all {
		out = append(out, []int{n})
		for _, m := range all {
			if n < m {
				out = append(out, []int{n, m})
			}
		}
	}
	d := dice(6)
	for range 2000 {
		var l []int
		every := d.below(40) + 1
		most := []int{64, 72, 128}[d.below(3)]
		for _, n := range all {
			if n <= most && d.below(every) == 0 {
				l = append(l, n)
			}
		}
		out = append(out, l)
	}
	return out
}

// wrongLists are lists that aren't right.
func wrongLists() [][]int {
	out := [][]int{{2, 2}, {3, 2}, {128, 2}, {66, 64}, {64, 64}, {128, 128}, {2, 3, 3}, {2, 3, 2}, {2, 4, 3, 5}, {5, 2, 3, 4}, {2, 3, 4, 4}, {2, 11, 128, 127}, {2, 3, 4, 2, 3, 4}, {0, 1, 2}, {1, 2}, {2, 64, 65}, {64, 65, 66}, {65, 66}, {65, 65}, {127, 128, 129}, {129, 2}, {1, 70}, {-5, -4}}
	for _, n := range noFields() {
		out = append(out, []int{n}, []int{n, n}, []int{2, 11, n}, []int{n, 2, 11}, []int{2, n, 128})
	}
	all := fields()
	for i := range all {
		twice := slices.Insert(slices.Clone(all), i, all[i])
		turned := slices.Clone(all)
		turned[i], turned[(i+1)%len(all)] = turned[(i+1)%len(all)], turned[i]
		out = append(out, twice, turned)
	}
	with := slices.Insert(slices.Clone(all), 63, 65)
	return append(out, with, append(slices.Clone(all), 129), slices.Insert(slices.Clone(all), 0, 1))
}

// refused: did Read answer this error, and nothing else?
func refused(t *testing.T, b []byte, at int, want api.Errno) {
	t.Helper()
	if l, behind, e := bitmap.Read(b, at); len(l) != 0 || behind != 0 || e != want {
		t.Fatalf("Read(%x, %d) = %v, %d, %d, not %d", b, at, l, behind, e, want)
	}
}

// P6.1

func TestRightOfOneNumber(t *testing.T) {
	for n := -300; n <= 700; n++ {
		if bitmap.Right([]int{n}) != field(n) {
			t.Fatalf("Right of %d alone: not %t", n, field(n))
		}
	}
	for _, n := range noFields() {
		if bitmap.Right([]int{n}) {
			t.Fatalf("Right of %d alone", n)
		}
	}
}

func TestRightOfTwoNumbers(t *testing.T) {
	for n := -2; n <= 131; n++ {
		for m := -2; m <= 131; m++ {
			if want := field(n) && field(m) && n < m; bitmap.Right([]int{n, m}) != want {
				t.Fatalf("Right of %d, %d: not %t", n, m, want)
			}
		}
	}
}

func TestRightOfAnyList(t *testing.T) {
	if !bitmap.Right(nil) || !bitmap.Right([]int{}) {
		t.Fatal("a list without numbers isn't right")
	}
	for _, l := range lists() {
		if !bitmap.Right(l) {
			t.Fatalf("%v isn't right", l)
		}
	}
	for _, l := range wrongLists() {
		if bitmap.Right(l) {
			t.Fatalf("%v is right", l)
		}
	}
	if bitmap.Right(make([]int, 1000)) || bitmap.Right(slices.Repeat([]int{2, 3}, 500)) {
		t.Fatal("a list of a thousand numbers is right")
	}
}

func TestPlaceOfEachBit(t *testing.T) {
	for n := 1; n <= 128; n++ {
		alone := strings.Repeat("0", n-1) + "1" + strings.Repeat("0", 128-n)
		at, bit := bitmap.Place(n)
		if at < 0 || at > 15 {
			t.Fatalf("Place(%d) = %d, %02x", n, at, bit)
		}
		b := make([]byte, 16)
		b[at] = bit
		if !bytes.Equal(b, packed(alone)) {
			t.Fatalf("Place(%d) = %d, %02x", n, at, bit)
		}
	}
	for _, x := range []struct {
		n, at int
		bit   byte
	}{{1, 0, 0x80}, {2, 0, 0x40}, {8, 0, 0x01}, {9, 1, 0x80}, {64, 7, 0x01}, {65, 8, 0x80}, {70, 8, 0x04}, {121, 15, 0x80}, {128, 15, 0x01}} {
		if at, bit := bitmap.Place(x.n); at != x.at || bit != x.bit {
			t.Fatalf("Place(%d) = %d, %02x", x.n, at, bit)
		}
	}
}

func TestPlaceOfNoBit(t *testing.T) {
	none := []int{math.MinInt, math.MinInt + 1, -1 << 32, 1<<32 + 1, math.MaxInt - 1, math.MaxInt}
	for n := -300; n <= 700; n++ {
		if n < 1 || n > 128 {
			none = append(none, n)
		}
	}
	for _, n := range none {
		if at, bit := bitmap.Place(n); at != 0 || bit != 0 {
			t.Fatalf("Place(%d) = %d, %02x", n, at, bit)
		}
	}
}

// P6.2

func TestWriteTellsTheBits(t *testing.T) {
	for _, x := range []struct {
		l []int
		b string
	}{
		{nil, "0000000000000000"}, {[]int{2, 11}, "4020000000000000"}, {[]int{2}, "4000000000000000"}, {[]int{8}, "0100000000000000"}, {[]int{9}, "0080000000000000"},
		{[]int{64}, "0000000000000001"}, {[]int{66}, "80000000000000004000000000000000"}, {[]int{70}, "80000000000000000400000000000000"}, {[]int{128}, "80000000000000000000000000000001"},
		{[]int{2, 64, 66, 128}, "c0000000000000014000000000000001"}, {fields(), "ffffffffffffffff7fffffffffffffff"}, {fields()[:63], "7fffffffffffffff"},
	} {
		if b, e := bitmap.Write(x.l); dig.Hex(b) != x.b || e != api.OK {
			t.Fatalf("Write(%v) = %x, %d", x.l, b, e)
		}
	}
	for _, l := range lists() {
		if b, e := bitmap.Write(l); !bytes.Equal(b, packed(signs(l))) || e != api.OK {
			t.Fatalf("Write(%v) = %x, %d", l, b, e)
		}
	}
}

func TestWriteRefuses(t *testing.T) {
	for _, l := range wrongLists() {
		if b, e := bitmap.Write(l); len(b) != 0 || e != api.ErrArg {
			t.Fatalf("Write(%v) = %x, %d", l, b, e)
		}
	}
}

// P6.3

func TestReadTakesTheListAtAPlace(t *testing.T) {
	for _, l := range lists() {
		b := packed(signs(l))
		for _, ahead := range []string{"", "\xff", "\x00\x80\x7f", strings.Repeat("\x80", 17)} {
			for _, behind := range []string{"", "\x00", "\x80", strings.Repeat("\xff", 8), strings.Repeat("\xff", 16), strings.Repeat("\x00", 20)} {
				at := len(ahead)
				got, next, e := bitmap.Read([]byte(ahead+string(b)+behind), at)
				if !slices.Equal(got, l) || next != at+len(b) || e != api.OK {
					t.Fatalf("Read of %x at %d, %x behind it: %v, %d, %d", b, at, behind, got, next, e)
				}
			}
		}
	}
}

func TestReadAtNoPlace(t *testing.T) {
	for _, l := range [][]int{nil, {2, 11}, {70}, fields()} {
		b := packed(signs(l))
		for _, at := range []int{math.MinInt, math.MinInt + 1, -1 << 32, -16, -8, -2, -1, len(b) + 1, len(b) + 8, 1 << 32, math.MaxInt - 7, math.MaxInt} {
			refused(t, b, at, api.ErrArg)
			refused(t, append(b, make([]byte, 40)...)[:len(b)], at, api.ErrArg) // with room behind
		}
	}
	refused(t, nil, -1, api.ErrArg)
	refused(t, nil, 1, api.ErrArg)
	refused(t, nil, 0, api.ErrShort)
}

func TestReadOfBytesThatEndTooSoon(t *testing.T) {
	for _, l := range [][]int{nil, {2, 11}, {64}, {66}, {70}, {128}, {2, 128}, fields(), fields()[:63]} {
		b := packed(signs(l))
		for end := range b {
			refused(t, b[:end:end], 0, api.ErrShort)
			refused(t, b[:end], 0, api.ErrShort) // with room behind
			refused(t, append([]byte{0x80, 0x00, 0x40}, b[:end]...), 3, api.ErrShort)
		}
		for at := len(b) - 7; at <= len(b); at++ {
			refused(t, b, at, api.ErrShort)
		}
	}
	for first := range 256 {
		b := append([]byte{byte(first)}, make([]byte, 15)...)
		for n := range 16 {
			if n >= 8 && first < 128 {
				if _, at, e := bitmap.Read(b[:n], 0); at != 8 || e != api.OK {
					t.Fatalf("Read(%x, 0) = %d, %d", b[:n], at, e)
				}
			} else {
				refused(t, b[:n], 0, api.ErrShort)
			}
		}
	}
}

func TestReadOfASecondRowThatIsNone(t *testing.T) {
	for _, x := range []string{
		"80000000000000000000000000000000", "80000000000000008000000000000000", "80000000000000008000000000000001", "8000000000000000c000000000000000", "ffffffffffffffffffffffffffffffff",
		"c0000000000000010000000000000000", "ffffffffffffffff0000000000000000", "c020000000000000ffffffffffffffff", "80000000000000018400000000000000",
	} {
		b, _ := dig.Unhex(x)
		refused(t, b, 0, api.ErrForm)
		refused(t, append([]byte{0x00}, append(b, 0xff)...), 1, api.ErrForm)
		for n := range 16 {
			refused(t, b[:n], 0, api.ErrShort) // ahead of ErrForm
		}
		refused(t, b, 17, api.ErrArg)
		refused(t, b, -1, api.ErrArg)
	}
	for _, l := range lists() {
		s := "1" + signs(l)[1:64]
		refused(t, packed(s+strings.Repeat("0", 64)), 0, api.ErrForm)
		wide := (signs(l) + strings.Repeat("0", 64))[64:128]
		refused(t, packed(s+"1"+wide[1:]), 0, api.ErrForm)
	}
}

func TestReadLooksAtNothingBehindOneRow(t *testing.T) {
	b := packed(signs([]int{2, 11}))
	for x := range 256 { // the first bit of what stands behind would be bit 65
		l, at, e := bitmap.Read(append(bytes.Clone(b), bytes.Repeat([]byte{byte(x)}, 8)...), 0)
		if !slices.Equal(l, []int{2, 11}) || at != 8 || e != api.OK {
			t.Fatalf("%02x behind it: %v, %d, %d", x, l, at, e)
		}
	}
}

// P6.4

func TestWhatIsWrittenIsRead(t *testing.T) {
	for _, l := range lists() {
		b, e := bitmap.Write(l)
		for _, behind := range []string{"", "\x00", "\x80", "\xff\xff", string(b), strings.Repeat("\xff", 16)} {
			got, at, g := bitmap.Read([]byte("\x80\x08"+string(b)+behind), 2)
			if !slices.Equal(got, l) || at != 2+len(b) || e != api.OK || g != api.OK {
				t.Fatalf("%v, written and read: %d, %v, %d, %d", l, e, got, at, g)
			}
		}
	}
}

func TestWhatIsReadIsWritten(t *testing.T) {
	d := dice(1)
	counts := map[api.Errno]int{}
	for range 20000 {
		b := make([]byte, d.below(28))
		for i := range b {
			b[i] = byte(d.below(256))
			if d.below(3) > 0 {
				b[i] &= byte(1 << d.below(9) >> 1)
			}
		}
		at := d.below(3)
		l, next, e := bitmap.Read(b, at)
		counts[e]++
		if e != api.OK {
			continue
		}
		if again, g := bitmap.Write(l); !bytes.Equal(again, b[at:next]) || g != api.OK || !bitmap.Right(l) {
			t.Fatalf("%x, read as %v, is written again as %x, %d", b[at:next], l, again, g)
		}
	}
	for _, e := range []api.Errno{api.OK, api.ErrArg, api.ErrShort, api.ErrForm} {
		if counts[e] < 200 {
			t.Fatalf("%d of the rows were answered by %d", counts[e], e)
		}
	}
}

func TestEachRowOfBitsIsOfOneList(t *testing.T) {
	seen := map[string][]int{}
	for _, l := range lists() {
		b, _ := bitmap.Write(l)
		if m, had := seen[string(b)]; had && !slices.Equal(m, l) {
			t.Fatalf("%v and %v have the same bits", l, m)
		}
		seen[string(b)] = l
	}
}

// R3 and R4

func TestWhatIsHandedInStays(t *testing.T) {
	for _, l := range append(lists()[:200], wrongLists()...) {
		room := append(slices.Clone(l), 7, 7, 7, 7)
		kept := slices.Clone(room)
		bitmap.Right(room[:len(l)])
		bitmap.Write(room[:len(l)])
		if !slices.Equal(room, kept) {
			t.Fatalf("%v changed to %v", kept, room)
		}
	}
	for _, x := range []string{"4020000000000000", "80000000000000000400000000000000", "80000000000000008000000000000001", "4000"} {
		b, _ := dig.Unhex(x + "eeeeeeee")
		for at := range len(b) {
			bitmap.Read(b[:len(x)/2], at)
			bitmap.Read(b, at)
		}
		if dig.Hex(b) != x+"eeeeeeee" {
			t.Fatalf("%s changed to %x", x, b)
		}
	}
}

func TestAnswersAreApart(t *testing.T) {
	for _, want := range [][]int{{2, 11}, {70}, fields()} {
		l := slices.Clone(want)
		b, _ := bitmap.Write(l)
		clear(l)
		if !bytes.Equal(b, packed(signs(want))) {
			t.Fatalf("the bits of %v changed with the list: %x", want, b)
		}
		got, _, _ := bitmap.Read(b, 0)
		clear(b)
		if !slices.Equal(got, want) {
			t.Fatalf("the list %v changed with the bits: %v", want, got)
		}
		clear(got)
		if again, at, e := bitmap.Read(packed(signs(want)), 0); !slices.Equal(again, want) || at != len(signs(want))/8 || e != api.OK {
			t.Fatalf("%v, read once more: %v, %d, %d", want, again, at, e)
		}
		if again, e := bitmap.Write(want); !bytes.Equal(again, packed(signs(want))) || e != api.OK {
			t.Fatalf("%v, written once more: %x, %d", want, again, e)
		}
	}
}
