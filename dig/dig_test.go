package dig_test

import (
	"bytes"
	"math"
	"strings"
	"testing"

	"yett/api"
	"yett/dig"
)

// power is 10 to the power of w.
func power(w int) int {
	n := 1
	for range w {
		n *= 10
	}
	return n
}

// greatestOf is the greatest number of w bytes.
func greatestOf(w int) int {
	if w == 8 {
		return math.MaxInt64
	}
	return 1<<(8*w) - 1
}

// noFigures are texts with a sign that is no figure: the neighbours of the figures, signs of several bytes, and bytes that make no sign.
func noFigures() []string {
	return []string{
		"1/", "/1", "1:", ":1", "12a", "a12", "1A2", "-1", "+1", " 1", "1 ", "1.", "1\n", "\x001", "1\x00",
		"\xff1", "1\xb2", "\xc3\xa91", // bytes that make no sign, and a sign of two bytes
		"\u0663\u0664", "\uff11", "1\uff11", "\u00b2", "\U0001d7d8", "1\ufffd", // figures of other scripts
	}
}

// P1.1

func TestDigitsTellsNumbersWithNoughtsAhead(t *testing.T) {
	for _, x := range []struct {
		n, w int
		s    string
	}{
		{42, 6, "000042"}, {0, 1, "0"}, {0, 18, "000000000000000000"}, {9, 1, "9"}, {7, 2, "07"}, {1234567890, 10, "1234567890"},
		{100, 3, "100"}, {123456789012345678, 18, "123456789012345678"}, {999999999999999999, 18, "999999999999999999"},
	} {
		if s, e := dig.Digits(x.n, x.w); s != x.s || e != api.OK {
			t.Errorf("Digits(%d, %d) = %q, %d", x.n, x.w, s, e)
		}
	}
}

func TestDigitsTakesNumbersOfSoManyFiguresAlone(t *testing.T) {
	for w := 1; w <= 18; w++ {
		if s, e := dig.Digits(power(w)-1, w); s != strings.Repeat("9", w) || e != api.OK {
			t.Errorf("Digits of %d nines = %q, %d", w, s, e)
		}
		if s, e := dig.Digits(0, w); s != strings.Repeat("0", w) || e != api.OK {
			t.Errorf("Digits(0, %d) = %q, %d", w, s, e)
		}
		for _, n := range []int{power(w), power(w) + 1, math.MaxInt, -1, math.MinInt} {
			if s, e := dig.Digits(n, w); s != "" || e != api.ErrArg {
				t.Errorf("Digits(%d, %d) = %q, %d", n, w, s, e)
			}
		}
	}
}

func TestDigitsRefusesOtherWidths(t *testing.T) {
	for _, w := range []int{0, 19, 20, -1, math.MinInt, math.MaxInt} {
		for _, n := range []int{0, 5, -5} {
			if s, e := dig.Digits(n, w); s != "" || e != api.ErrArg {
				t.Errorf("Digits(%d, %d) = %q, %d", n, w, s, e)
			}
		}
	}
}

func TestValueReadsFigures(t *testing.T) {
	for s, want := range map[string]int{
		"0": 0, "9": 9, "00": 0, "000042": 42, "1234567890": 1234567890, "000000000000000000": 0, "000000000000000001": 1,
		"123456789012345678": 123456789012345678, "999999999999999999": 999999999999999999,
	} {
		if n, e := dig.Value(s); n != want || e != api.OK {
			t.Errorf("Value(%q) = %d, %d", s, n, e)
		}
	}
}

func TestValueRefusesWhatIsNoNumber(t *testing.T) {
	wrong := append(noFigures(), "", "/", ":", "a", "-", "\x80", strings.Repeat("0", 19), strings.Repeat("1", 19), strings.Repeat("0", 1000), "12345678901234567x", "x12345678901234567")
	for _, s := range wrong {
		if n, e := dig.Value(s); n != 0 || e != api.ErrForm {
			t.Errorf("Value(%q) = %d, %d", s, n, e)
		}
	}
}

// P1.2

func TestBcdPacksTwoFiguresInAByte(t *testing.T) {
	for s, want := range map[string][]byte{
		"": {}, "0": {0x00}, "9": {0x09}, "00": {0x00}, "99": {0x99}, "1234": {0x12, 0x34}, "12345": {0x01, 0x23, 0x45}, "67890": {0x06, 0x78, 0x90},
	} {
		if b, e := dig.Bcd(s); !bytes.Equal(b, want) || e != api.OK {
			t.Errorf("Bcd(%q) = %x, %d", s, b, e)
		}
	}
	long := strings.Repeat("8", 2001)
	if b, e := dig.Bcd(long); dig.Hex(b) != "0"+long || e != api.OK {
		t.Errorf("Bcd of 2001 figures: %d bytes, %d", len(b), e)
	}
}

func TestBcdRefusesOtherSigns(t *testing.T) {
	for _, s := range append(noFigures(), "/", ":", "a", "f", "\xff", strings.Repeat("1", 999)+"a") {
		if b, e := dig.Bcd(s); len(b) != 0 || e != api.ErrForm {
			t.Errorf("Bcd(%q) = %x, %d", s, b, e)
		}
	}
}

func TestTakeBcdReadsAtAPlace(t *testing.T) {
	b := []byte{0xff, 0x01, 0x23, 0x45, 0x90, 0xff}
	for _, x := range []struct {
		at, n, behind int
		s             string
	}{
		{1, 5, 4, "12345"}, {1, 6, 4, "012345"}, {1, 1, 2, "1"}, {1, 2, 2, "01"}, {2, 2, 3, "23"}, {3, 4, 5, "4590"}, {1, 7, 5, "1234590"},
		{0, 0, 0, ""}, {3, 0, 3, ""}, {6, 0, 6, ""},
	} {
		if s, at, e := dig.TakeBcd(b, x.at, x.n); s != x.s || at != x.behind || e != api.OK {
			t.Errorf("TakeBcd(%d, %d) = %q, %d, %d", x.at, x.n, s, at, e)
		}
	}
	if s, at, e := dig.TakeBcd(nil, 0, 0); s != "" || at != 0 || e != api.OK {
		t.Errorf("TakeBcd(nil, 0, 0) = %q, %d, %d", s, at, e)
	}
}

func TestTakeBcdTakesUpTo999Figures(t *testing.T) {
	b := append([]byte{0x07}, bytes.Repeat([]byte{0x77}, 500)...)
	for n, behind := range map[int]int{997: 499, 999: 500} {
		if s, at, e := dig.TakeBcd(b, 0, n); s != strings.Repeat("7", n) || at != behind || e != api.OK {
			t.Errorf("TakeBcd of %d = %d signs, %d, %d", n, len(s), at, e)
		}
	}
	if s, at, e := dig.TakeBcd(b, 1, 998); s != strings.Repeat("7", 998) || at != 500 || e != api.OK {
		t.Errorf("TakeBcd of 998 = %d signs, %d, %d", len(s), at, e)
	}
	if s, at, e := dig.TakeBcd(b, 1, 1000); s != "" || at != 0 || e != api.ErrArg {
		t.Errorf("TakeBcd of 1000 = %d signs, %d, %d", len(s), at, e)
	}
}

func TestTakeBcdRefuses(t *testing.T) {
	for _, x := range []struct {
		b     []byte
		at, n int
		e     api.Errno
	}{
		{[]byte{0x12}, 0, -1, api.ErrArg}, {[]byte{0x12}, 0, math.MinInt, api.ErrArg}, {[]byte{0x12}, 0, math.MaxInt, api.ErrArg},
		{[]byte{0x12}, -1, 0, api.ErrArg}, {[]byte{0x12}, 2, 0, api.ErrArg}, {[]byte{0x12}, math.MinInt, 2, api.ErrArg}, {[]byte{0x12}, math.MaxInt, 2, api.ErrArg}, {nil, 1, 0, api.ErrArg},
		{[]byte{0x12}, 0, 1000, api.ErrArg}, {[]byte{0xff}, 0, 1000, api.ErrArg}, // not ErrShort, not ErrForm
		{[]byte{0xff}, 2, 1, api.ErrArg}, {[]byte{0xff}, -1, 1, api.ErrArg},
		{nil, 0, 1, api.ErrShort}, {[]byte{0x12}, 1, 1, api.ErrShort}, {[]byte{0x12}, 0, 3, api.ErrShort}, {[]byte{0x12}, 0, 4, api.ErrShort},
		{[]byte{0x12}, 0, 999, api.ErrShort}, {bytes.Repeat([]byte{0x11}, 499), 0, 999, api.ErrShort},
		{[]byte{0xff}, 0, 3, api.ErrShort}, {[]byte{0x1a}, 0, 4, api.ErrShort}, // not ErrForm
		{[]byte{0x1a}, 0, 2, api.ErrForm}, {[]byte{0xa1}, 0, 2, api.ErrForm}, {[]byte{0x0f}, 0, 1, api.ErrForm}, {[]byte{0x0a}, 0, 1, api.ErrForm},
		{[]byte{0xf0}, 0, 1, api.ErrForm}, {[]byte{0x10}, 0, 1, api.ErrForm}, {[]byte{0x12, 0x34}, 0, 3, api.ErrForm}, {[]byte{0x90, 0x00}, 0, 3, api.ErrForm},
		{[]byte{0x12, 0x34, 0x5b}, 0, 6, api.ErrForm}, {[]byte{0x12, 0xc4, 0x56}, 0, 6, api.ErrForm}, {[]byte{0x00, 0x12}, 1, 1, api.ErrForm},
	} {
		if s, at, e := dig.TakeBcd(x.b, x.at, x.n); s != "" || at != 0 || e != x.e {
			t.Errorf("TakeBcd(%x, %d, %d) = %q, %d, %d", x.b, x.at, x.n, s, at, e)
		}
	}
}

// P1.3

func TestBigTellsNumbersHighestByteFirst(t *testing.T) {
	for _, x := range []struct {
		n, w int
		b    []byte
	}{
		{0, 1, []byte{0}}, {255, 1, []byte{255}}, {258, 2, []byte{1, 2}}, {1, 4, []byte{0, 0, 0, 1}}, {0x010203, 3, []byte{1, 2, 3}},
		{0x0102030405060708, 8, []byte{1, 2, 3, 4, 5, 6, 7, 8}}, {0, 8, make([]byte, 8)}, {math.MaxInt64, 8, []byte{127, 255, 255, 255, 255, 255, 255, 255}},
	} {
		if b, e := dig.Big(x.n, x.w); !bytes.Equal(b, x.b) || e != api.OK {
			t.Errorf("Big(%d, %d) = %x, %d", x.n, x.w, b, e)
		}
	}
}

func TestBigTakesNumbersOfSoManyBytesAlone(t *testing.T) {
	for w := 1; w <= 8; w++ {
		if b, e := dig.Big(greatestOf(w), w); len(b) != w || e != api.OK {
			t.Errorf("Big(%d, %d) = %x, %d", greatestOf(w), w, b, e)
		}
		wrong := []int{-1, math.MinInt}
		if w < 8 {
			wrong = append(wrong, greatestOf(w)+1, math.MaxInt)
		}
		for _, n := range wrong {
			if b, e := dig.Big(n, w); len(b) != 0 || e != api.ErrArg {
				t.Errorf("Big(%d, %d) = %x, %d", n, w, b, e)
			}
		}
	}
	for _, w := range []int{0, 9, -1, math.MinInt, math.MaxInt} {
		for _, n := range []int{0, 1, -1} {
			if b, e := dig.Big(n, w); len(b) != 0 || e != api.ErrArg {
				t.Errorf("Big(%d, %d) = %x, %d", n, w, b, e)
			}
		}
	}
}

func TestTakeBigReadsAtAPlace(t *testing.T) {
	b := []byte{0xff, 1, 2, 3, 4, 5, 6, 7, 8, 0xff}
	for _, x := range []struct{ at, w, n, behind int }{
		{0, 1, 255, 1}, {1, 1, 1, 2}, {1, 2, 258, 3}, {0, 2, 0xff01, 2}, {1, 8, 0x0102030405060708, 9}, {2, 8, 0x02030405060708ff, 10}, {9, 1, 255, 10}, {0, 7, 0xff010203040506, 7},
	} {
		if n, at, e := dig.TakeBig(b, x.at, x.w); n != x.n || at != x.behind || e != api.OK {
			t.Errorf("TakeBig(%d, %d) = %d, %d, %d", x.at, x.w, n, at, e)
		}
	}
	if n, at, e := dig.TakeBig([]byte{127, 255, 255, 255, 255, 255, 255, 255}, 0, 8); n != math.MaxInt64 || at != 8 || e != api.OK {
		t.Errorf("TakeBig of the greatest number = %d, %d, %d", n, at, e)
	}
}

func TestTakeBigRefuses(t *testing.T) {
	great := []byte{128, 0, 0, 0, 0, 0, 0, 0}
	for _, x := range []struct {
		b     []byte
		at, w int
		e     api.Errno
	}{
		{great, 0, 0, api.ErrArg}, {great, 0, 9, api.ErrArg}, {great, 0, -1, api.ErrArg}, {great, 0, math.MinInt, api.ErrArg}, {great, 0, math.MaxInt, api.ErrArg},
		{great, -1, 8, api.ErrArg}, {great, 9, 1, api.ErrArg}, {great, math.MinInt, 1, api.ErrArg}, {great, math.MaxInt, 8, api.ErrArg}, {nil, 1, 1, api.ErrArg},
		{nil, 0, 9, api.ErrArg}, {[]byte{1}, 2, 8, api.ErrArg}, // not ErrShort
		{nil, 0, 1, api.ErrShort}, {great, 8, 1, api.ErrShort}, {great, 1, 8, api.ErrShort}, {great[:7], 0, 8, api.ErrShort}, {[]byte{1, 2}, 1, 2, api.ErrShort},
		{great, 0, 8, api.ErrForm}, {bytes.Repeat([]byte{255}, 8), 0, 8, api.ErrForm}, {bytes.Repeat([]byte{255}, 10), 1, 8, api.ErrForm},
	} {
		if n, at, e := dig.TakeBig(x.b, x.at, x.w); n != 0 || at != 0 || e != x.e {
			t.Errorf("TakeBig(%x, %d, %d) = %d, %d, %d", x.b, x.at, x.w, n, at, e)
		}
	}
	for w := 1; w < 8; w++ { // of fewer bytes the highest bit is one like the others
		if n, at, e := dig.TakeBig(bytes.Repeat([]byte{255}, w), 0, w); n != greatestOf(w) || at != w || e != api.OK {
			t.Errorf("TakeBig of %d bytes ff = %d, %d, %d", w, n, at, e)
		}
	}
}

// P1.4

func TestHexTellsTwoSignsOfEachByte(t *testing.T) {
	for want, b := range map[string][]byte{"": nil, "00": {0}, "0f": {15}, "f0": {240}, "00ff7a": {0, 255, 122}, "0123456789abcdef": {0x01, 0x23, 0x45, 0x67, 0x89, 0xab, 0xcd, 0xef}} {
		if s := dig.Hex(b); s != want {
			t.Errorf("Hex(%v) = %q", b, s)
		}
		if x, e := dig.Unhex(want); !bytes.Equal(x, b) || e != api.OK {
			t.Errorf("Unhex(%q) = %v, %d", want, x, e)
		}
	}
}

func TestUnhexTakesTheSignsOfHexAlone(t *testing.T) {
	const right = "0123456789abcdef"
	for x := range 256 {
		for y := range 256 {
			s := string([]byte{byte(x), byte(y)})
			hi, lo := strings.IndexByte(right, byte(x)), strings.IndexByte(right, byte(y))
			b, e := dig.Unhex(s)
			if hi < 0 || lo < 0 {
				if len(b) != 0 || e != api.ErrForm {
					t.Fatalf("Unhex(%q) = %v, %d", s, b, e)
				}
			} else if len(b) != 1 || int(b[0]) != 16*hi+lo || e != api.OK {
				t.Fatalf("Unhex(%q) = %v, %d", s, b, e)
			}
		}
	}
	for _, s := range []string{"0", "a", "012", "AB", "0123G5", "0x12", "12 4", "123\n", "\uff11\uff110", "\u00e9", "00\u00e9", "\u00e900"} {
		if b, e := dig.Unhex(s); len(b) != 0 || e != api.ErrForm {
			t.Errorf("Unhex(%q) = %v, %d", s, b, e)
		}
	}
}

// P1.5

func TestNumbersAreReadAsTheyWereWritten(t *testing.T) {
	for w := 1; w <= 18; w++ {
		for _, n := range []int{0, 1, 9, power(w) / 3, power(w) / 2, power(w) - 1} {
			s, e := dig.Digits(n, w)
			if m, f := dig.Value(s); m != n || e != api.OK || f != api.OK {
				t.Errorf("%d as %d figures: %q, %d, %d, %d", n, w, s, e, m, f)
			}
		}
	}
	for w := 1; w <= 8; w++ {
		for _, n := range []int{0, 1, 255, greatestOf(w) / 3, greatestOf(w) - 1, greatestOf(w)} {
			b, e := dig.Big(n, w)
			if m, at, f := dig.TakeBig(append([]byte{9}, append(b, 9)...), 1, w); m != n || at != 1+w || e != api.OK || f != api.OK {
				t.Errorf("%d as %d bytes: %x, %d, %d, %d, %d", n, w, b, e, m, at, f)
			}
		}
	}
}

func TestFiguresAreReadAsTheyWerePacked(t *testing.T) {
	const all = "90123456789"
	for n := 0; n <= 999; n++ {
		s := strings.Repeat(all, n/len(all)) + all[:n%len(all)]
		b, e := dig.Bcd(s)
		if x, at, f := dig.TakeBcd(append([]byte{0xee}, append(b, 0xee)...), 1, n); x != s || at != 1+len(b) || e != api.OK || f != api.OK {
			t.Errorf("%d figures: %d, %q, %d, %d", n, e, x, at, f)
		}
	}
}

func TestWhatIsReadIsWrittenAgain(t *testing.T) {
	for _, s := range []string{"0", "7", "042", "100", "000000000000000000", "987654321098765432"} {
		n, _ := dig.Value(s)
		if x, e := dig.Digits(n, len(s)); x != s || e != api.OK {
			t.Errorf("%q is written again as %q, %d", s, x, e)
		}
	}
	for x := range 1 << 16 {
		b := []byte{byte(x >> 8), byte(x)}
		n, _, _ := dig.TakeBig(b, 0, 2)
		if y, e := dig.Big(n, 2); !bytes.Equal(y, b) || e != api.OK {
			t.Fatalf("%x is written again as %x, %d", b, y, e)
		}
		if y, e := dig.Unhex(dig.Hex(b)); !bytes.Equal(y, b) || e != api.OK {
			t.Fatalf("%x is read as %x, %d", b, y, e)
		}
		for n := 3; n <= 4; n++ {
			s, _, e := dig.TakeBcd(b, 0, n)
			if y, f := dig.Bcd(s); e == api.OK && (!bytes.Equal(y, b) || f != api.OK) {
				t.Fatalf("%x is packed again as %x, %d", b, y, f)
			}
		}
	}
}

func TestGreaterNumbersHaveGreaterTexts(t *testing.T) {
	ahead, aheadBytes := "", []byte(nil)
	for _, n := range []int{0, 1, 9, 10, 11, 99, 100, 255, 256, 257, 65535, 65536, 999999, 1 << 32, 999999999999999998, 999999999999999999} {
		s, _ := dig.Digits(n, 18)
		b, _ := dig.Big(n, 8)
		if s <= ahead || bytes.Compare(b, aheadBytes) <= 0 {
			t.Errorf("%d: %q behind %q, %x behind %x", n, s, ahead, b, aheadBytes)
		}
		ahead, aheadBytes = s, b
	}
}

// R3 and R4

func TestWhatIsHandedInStaysAndAnswersAreApart(t *testing.T) {
	in := []byte{0x01, 0x23, 0x45, 0x67, 0x89, 0x01, 0x23, 0x45, 0x67}
	kept := bytes.Clone(in)
	dig.TakeBcd(in, 1, 6)
	dig.TakeBig(in, 1, 8)
	text := dig.Hex(in)
	if !bytes.Equal(in, kept) {
		t.Errorf("written into: %x", in)
	}
	in[0] = 0xff
	if text != dig.Hex(kept) {
		t.Errorf("an answer changed with its argument: %q", text)
	}
	for name, call := range map[string]func() []byte{
		"Bcd":   func() []byte { b, _ := dig.Bcd("123456"); return b },
		"Big":   func() []byte { b, _ := dig.Big(123456, 4); return b },
		"Unhex": func() []byte { b, _ := dig.Unhex("abcdef"); return b },
	} {
		first := call()
		want := bytes.Clone(first)
		clear(first)
		if again := call(); !bytes.Equal(again, want) {
			t.Errorf("%s answers %x behind %x", name, again, want)
		}
	}
}
