package frame_test

import (
	"bytes"
	"encoding/hex"
	"math"
	"slices"
	"strings"
	"testing"

	"yett/api"
	"yett/frame"
)

// dice tells numbers that look thrown, always the same ones from one seed.
type dice uint64

func (d *dice) below(n int) int {
	*d = *d*6364136223846793005 + 1442695040888963407
	return int(uint64(*d) >> 33 % uint64(n))
}

// some are n bytes that look thrown.
func (d *dice) some(n int) []byte {
	out := make([]byte, n)
	for i := range out {
		out[i] = byte(d.below(256))
	}
	return out
}

// unhex is the bytes of signs, which stand in groups.
func unhex(s string) []byte {
	b, err := hex.DecodeString(strings.ReplaceAll(s, " ", ""))
	if err != nil {
		panic(err)
	}
	return b
}

// told is a number as two bytes, the higher one first, and what stands behind it.
func told(n int, behind []byte) []byte {
	return append([]byte{byte(n / 256), byte(n % 256)}, behind...)
}

// several are n bytes, no two neighbours of which are the same.
func several(n int) []byte {
	out := make([]byte, n)
	for i := range out {
		out[i] = byte(i*7 + i>>8 + 3)
	}
	return out
}

// walk reads a stream a byte at a time, as the document tells it. (Not as the program reads it.)
func walk(f api.Feed, b []byte) (api.Feed, [][]byte) {
	var out [][]byte
	f.Buf = bytes.Clone(f.Buf)
	for _, x := range b {
		if f.Skip > 0 {
			f.Skip--
			continue
		}
		f.Buf = append(f.Buf, x)
		if len(f.Buf) < 2 {
			continue
		}
		switch n := int(f.Buf[0])*256 + int(f.Buf[1]); {
		case n == 0, n > 1024:
			f = api.Feed{Skip: n, Bad: f.Bad + 1}
		case len(f.Buf) == n+2:
			out = append(out, f.Buf[2:])
			f.Buf = nil
		}
	}
	return f, out
}

// same: are two feeds the same? (Not as the program asks it.)
func same(a, b api.Feed) bool {
	return string(a.Buf) == string(b.Buf) && a.Skip == b.Skip && a.Bad == b.Bad
}

// alike: are two lists of frames the same?
func alike(a, b [][]byte) bool { return slices.EqualFunc(a, b, bytes.Equal) }

// deep is a copy of a feed, to hold it against later.
func deep(f api.Feed) api.Feed {
	f.Buf = bytes.Clone(f.Buf)
	return f
}

// deeps is a copy of frames, to hold them against later.
func deeps(l [][]byte) [][]byte {
	var out [][]byte
	for _, b := range l {
		out = append(out, bytes.Clone(b))
	}
	return out
}

// pushed holds what Push answers against what it should.
func pushed(t *testing.T, f api.Feed, b []byte, want api.Feed, frames ...[]byte) {
	t.Helper()
	g, l := frame.Push(f, b)
	if !same(g, want) || !alike(l, frames) {
		t.Fatalf("Push(%x %d %d, %d bytes) = %x %d %d, %x, not %x %d %d, %x", f.Buf, f.Skip, f.Bad, len(b), g.Buf, g.Skip, g.Bad, l, want.Buf, want.Skip, want.Bad, frames)
	}
}

// rights are right feeds: empty ones, such that wait for each number's bytes, and such that pass over.
func rights() []api.Feed {
	out := []api.Feed{{}, {Buf: []byte{}}, {Bad: 1}, {Bad: -1}, {Bad: math.MaxInt}, {Bad: math.MinInt}, {Skip: 1, Buf: []byte{}}}
	for x := range 256 {
		out = append(out, api.Feed{Buf: []byte{byte(x)}, Bad: x})
	}
	for _, n := range []int{1, 2, 3, 7, 255, 256, 257, 511, 512, 1022, 1023, 1024} {
		for _, has := range []int{0, 1, n / 2, n - 1} {
			if has < n {
				out = append(out, api.Feed{Buf: told(n, several(has)), Bad: 5})
			}
		}
	}
	for _, n := range []int{1, 2, 3, 1023, 1024, 1025, 1026, 32767, 32768, 65534, 65535} {
		out = append(out, api.Feed{Skip: n}, api.Feed{Skip: n, Bad: -n})
	}
	return out
}

// wrongs are feeds that aren't right.
func wrongs() []api.Feed {
	var out []api.Feed
	for _, n := range []int{math.MinInt, math.MinInt + 1, -1 << 32, -1<<16 + 1, -65535, -1024, -2, -1, 65536, 65537, 1 << 17, 1<<32 - 1, 1 << 32, 1<<32 + 1, 1<<32 + 65535, math.MaxInt} {
		out = append(out, api.Feed{Skip: n}, api.Feed{Skip: n, Buf: []byte{1}}, api.Feed{Skip: n, Buf: []byte{0, 2, 7}})
	}
	for _, n := range []int{1, 2, 3, 1024, 65535} {
		out = append(out, api.Feed{Skip: n, Buf: []byte{0}}, api.Feed{Skip: n, Buf: []byte{0, 2, 7}}, api.Feed{Skip: n, Buf: []byte{4, 0}}, api.Feed{Skip: n, Buf: []byte{4, 1}})
	}
	for _, n := range []int{0, 1025, 1026, 2047, 2048, 0x0500, 0x0800, 0x1000, 0x8000, 0x8001, 0xff00, 0xffff} {
		out = append(out, api.Feed{Buf: told(n, nil)}, api.Feed{Buf: told(n, several(1))}, api.Feed{Buf: told(n, several(n))})
	}
	for _, n := range []int{1, 2, 255, 256, 1023, 1024} {
		out = append(out, api.Feed{Buf: told(n, several(n))}, api.Feed{Buf: told(n, several(n+1))}, api.Feed{Buf: told(n, several(n+2000)), Bad: 3})
	}
	return out
}

// piece is bytes of a stream: a frame, two bytes that tell 0, too great a number and what is passed over, or any bytes.
func piece(d *dice) []byte {
	switch d.below(8) {
	case 0:
		return told(0, nil)
	case 1:
		n := 1025 + d.below(40)
		return told(n, d.some(n))
	case 2:
		n := 1025 + d.below(64511)
		return told(n, d.some(n))
	case 3:
		n := 1 + d.below(1024)
		return told(n, d.some(n))
	case 4:
		return told(1024, d.some(1024))
	default:
		n := 1 + d.below(6)
		return told(n, d.some(n))
	}
}

// streams are streams of thrown pieces, some of them cut off.
func streams(n int) [][]byte {
	d := dice(8)
	var out [][]byte
	for range n {
		var b []byte
		for range d.below(9) {
			b = append(b, piece(&d)...)
		}
		if len(b) > 0 && d.below(2) == 0 {
			b = b[:d.below(len(b))]
		}
		out = append(out, b)
	}
	return out
}

// shorts are streams whose each cut can be asked for.
func shorts() [][]byte {
	long := append(told(1025, several(1025)), 0, 1, 6)
	return [][]byte{
		nil, unhex("00"), unhex("0000"), unhex("0001"), unhex("0001 05"), unhex("0002 0102"), unhex("0000 0000 0000"), unhex("0000 00"), unhex("0002 0809 0000 0001 07 0003 01"),
		unhex("0001 00 0001 00 0001 00"), unhex("0001 04 0001 01"), unhex("0002 0000 0002 0401 00"), unhex("0003 000107 0000 0002 0000 0000 0001 ff"), unhex("0400"), unhex("0401"), unhex("0401 05"), unhex("ffff 0001 05"), unhex("0000 0500 0001 05"),
		long, long[:1026], long[:1027], long[:1028], append(told(1024, several(1024)), 0, 0, 0, 1, 9), append(unhex("0000 0001 ff"), told(1030, several(1031))...),
	}
}

// P8.1

func TestPackTellsHowManyAhead(t *testing.T) {
	for n := 1; n <= 1024; n++ {
		b := several(n)
		if x, e := frame.Pack(b); e != api.OK || !bytes.Equal(x, told(n, b)) {
			t.Fatalf("Pack of %d bytes = %x, %d", n, x, e)
		}
	}
	for s, want := range map[string]string{"0102": "0002 0102", "00": "0001 00", "ff": "0001 ff", "0000": "0002 0000", "0401": "0002 0401"} {
		if x, e := frame.Pack(unhex(s)); e != api.OK || !bytes.Equal(x, unhex(want)) {
			t.Fatalf("Pack(%s) = %x, %d", s, x, e)
		}
	}
	for _, x := range []struct {
		n      int
		hi, lo byte
	}{{255, 0, 255}, {256, 1, 0}, {257, 1, 1}, {512, 2, 0}, {1023, 3, 255}, {1024, 4, 0}} {
		if b, e := frame.Pack(make([]byte, x.n)); e != api.OK || len(b) != x.n+2 || b[0] != x.hi || b[1] != x.lo {
			t.Fatalf("Pack of %d bytes begins with %x, %d", x.n, b[:min(2, len(b))], e)
		}
	}
}

func TestPackRefuses(t *testing.T) {
	for _, b := range [][]byte{nil, {}, make([]byte, 0, 100)} {
		if x, e := frame.Pack(b); e != api.ErrArg || len(x) != 0 {
			t.Fatalf("Pack of nothing = %x, %d", x, e)
		}
	}
	for _, n := range []int{1025, 1026, 1027, 1279, 1280, 2047, 2048, 4096, 65534, 65535, 65536, 65537, 65536 + 1024, 65536 + 1025, 1 << 20} {
		if x, e := frame.Pack(several(n)); e != api.ErrArg || len(x) != 0 {
			t.Fatalf("Pack of %d bytes = %d bytes, %d", n, len(x), e)
		}
	}
}

func TestRightFeeds(t *testing.T) {
	for _, f := range rights() {
		if !frame.Right(f) {
			t.Fatalf("%x %d %d isn't right", f.Buf, f.Skip, f.Bad)
		}
	}
	for _, f := range wrongs() {
		if frame.Right(f) {
			t.Fatalf("%x %d %d is right", f.Buf, f.Skip, f.Bad)
		}
	}
}

func TestRightOfEachNumber(t *testing.T) {
	for n := range 65536 {
		for _, has := range []int{0, 1, n - 1, n, n + 1} {
			if has < 0 || has > 1100 {
				continue
			}
			want := n >= 1 && n <= 1024 && has < n
			if frame.Right(api.Feed{Buf: told(n, several(has))}) != want {
				t.Fatalf("of %d bytes %d wait: right is not %t", n, has, want)
			}
		}
		if !frame.Right(api.Feed{Skip: n}) || frame.Right(api.Feed{Skip: n + 65536}) || frame.Right(api.Feed{Skip: -n - 1}) {
			t.Fatalf("%d, %d or %d bytes to pass over", n, n+65536, -n-1)
		}
		if frame.Right(api.Feed{Skip: n, Buf: []byte{7}}) != (n == 0) {
			t.Fatalf("%d bytes to pass over, and one that waits", n)
		}
	}
}

func TestSameAsksForAll(t *testing.T) {
	f := api.Feed{Buf: []byte{0, 3, 7}, Skip: 4, Bad: 2} // of any feeds, right or not
	for i, x := range []api.Feed{
		{}, {Buf: []byte{0, 3, 8}, Skip: 4, Bad: 2}, {Buf: []byte{1, 3, 7}, Skip: 4, Bad: 2}, {Buf: []byte{0, 2, 7}, Skip: 4, Bad: 2}, {Buf: []byte{0, 3}, Skip: 4, Bad: 2}, {Buf: []byte{3, 7}, Skip: 4, Bad: 2}, {Buf: []byte{0, 3, 7, 0}, Skip: 4, Bad: 2}, {Skip: 4, Bad: 2},
		{Buf: f.Buf, Skip: 5, Bad: 2}, {Buf: f.Buf, Skip: -4, Bad: 2}, {Buf: f.Buf, Skip: 4 + 1<<32, Bad: 2}, {Buf: f.Buf, Bad: 2},
		{Buf: f.Buf, Skip: 4, Bad: 3}, {Buf: f.Buf, Skip: 4, Bad: -2}, {Buf: f.Buf, Skip: 4, Bad: 2 + 1<<32}, {Buf: f.Buf, Skip: 4}, {Buf: f.Buf, Skip: 2, Bad: 4},
	} {
		if frame.Same(f, x) || frame.Same(x, f) || !frame.Same(x, deep(x)) {
			t.Fatalf("Same, of the feed %d", i)
		}
	}
	if !frame.Same(f, deep(f)) || !frame.Same(f, f) || !frame.Same(api.Feed{}, api.Feed{Buf: []byte{}}) || !frame.Same(api.Feed{Buf: make([]byte, 0, 9), Bad: 1}, api.Feed{Bad: 1}) {
		t.Fatal("what is the same isn't")
	}
}

func TestSameOfAnyFeeds(t *testing.T) {
	all := append(rights(), wrongs()...)
	for _, a := range all {
		for _, b := range all {
			if frame.Same(a, deep(b)) != same(a, b) {
				t.Fatalf("Same of %x %d %d and %x %d %d: not %t", a.Buf, a.Skip, a.Bad, b.Buf, b.Skip, b.Bad, same(a, b))
			}
		}
	}
}

// P8.2

func TestPushOfWholeFrames(t *testing.T) {
	pushed(t, api.Feed{}, nil, api.Feed{})
	pushed(t, api.Feed{}, unhex("0002 0102"), api.Feed{}, []byte{1, 2})
	pushed(t, api.Feed{}, unhex("0001 00"), api.Feed{}, []byte{0})
	pushed(t, api.Feed{Bad: 3}, unhex("0001 07 0002 0001 0001 ff"), api.Feed{Bad: 3}, []byte{7}, []byte{0, 1}, []byte{255})
	pushed(t, api.Feed{}, append(told(1024, several(1024)), 0, 1, 9), api.Feed{}, several(1024), []byte{9})
	pushed(t, api.Feed{}, slices.Repeat([]byte{0, 1, 7}, 1000), api.Feed{}, slices.Repeat([][]byte{{7}}, 1000)...)
}

func TestPushOfWhatIsntWholeYet(t *testing.T) {
	pushed(t, api.Feed{}, unhex("00"), api.Feed{Buf: unhex("00")})
	pushed(t, api.Feed{}, unhex("ff"), api.Feed{Buf: unhex("ff")})
	pushed(t, api.Feed{}, unhex("0001"), api.Feed{Buf: unhex("0001")})
	pushed(t, api.Feed{}, unhex("0002 01"), api.Feed{Buf: unhex("0002 01")})
	pushed(t, api.Feed{}, unhex("0001 07 0003 0102"), api.Feed{Buf: unhex("0003 0102")}, []byte{7})
	pushed(t, api.Feed{}, unhex("0001 07 00"), api.Feed{Buf: unhex("00")}, []byte{7})
	pushed(t, api.Feed{}, told(1024, several(1023)), api.Feed{Buf: told(1024, several(1023))})
	pushed(t, api.Feed{Buf: unhex("00"), Bad: 4}, nil, api.Feed{Buf: unhex("00"), Bad: 4})
	pushed(t, api.Feed{Buf: unhex("00"), Bad: 4}, unhex("02"), api.Feed{Buf: unhex("0002"), Bad: 4})
	pushed(t, api.Feed{Buf: unhex("00"), Bad: 4}, unhex("02 0506 00"), api.Feed{Buf: unhex("00"), Bad: 4}, []byte{5, 6})
	pushed(t, api.Feed{Buf: unhex("0002")}, unhex("05"), api.Feed{Buf: unhex("0002 05")})
	pushed(t, api.Feed{Buf: unhex("0002 05")}, unhex("06"), api.Feed{}, []byte{5, 6})
	pushed(t, api.Feed{Buf: unhex("0002 05")}, unhex("06 0001 00 0001"), api.Feed{Buf: unhex("0001")}, []byte{5, 6}, []byte{0})
	pushed(t, api.Feed{Buf: told(1024, several(1023)), Bad: -1}, []byte{9}, api.Feed{Bad: -1}, append(several(1023), 9))
	pushed(t, api.Feed{Buf: unhex("04")}, unhex("00"), api.Feed{Buf: unhex("0400")})
}

func TestPushOfFramesOfNothing(t *testing.T) {
	pushed(t, api.Feed{}, unhex("0000"), api.Feed{Bad: 1})
	pushed(t, api.Feed{Buf: unhex("00"), Bad: 1}, unhex("00"), api.Feed{Bad: 2})
	pushed(t, api.Feed{}, unhex("0000 0000 0000"), api.Feed{Bad: 3})
	pushed(t, api.Feed{}, unhex("0000 0000 00"), api.Feed{Buf: unhex("00"), Bad: 2})
	pushed(t, api.Feed{}, unhex("0002 0809 0000 0001 07 0000 0003 01"), api.Feed{Buf: unhex("0003 01"), Bad: 2}, []byte{8, 9}, []byte{7})
	pushed(t, api.Feed{}, make([]byte, 100001), api.Feed{Buf: unhex("00"), Bad: 50000})
}

func TestPushOfFramesThatAreTooLong(t *testing.T) {
	pushed(t, api.Feed{}, unhex("0401"), api.Feed{Skip: 1025, Bad: 1})
	pushed(t, api.Feed{Buf: unhex("04")}, unhex("01"), api.Feed{Skip: 1025, Bad: 1})
	pushed(t, api.Feed{}, unhex("0401 05"), api.Feed{Skip: 1024, Bad: 1})
	pushed(t, api.Feed{}, told(1025, several(1025)), api.Feed{Bad: 1})
	pushed(t, api.Feed{}, told(1025, several(1024)), api.Feed{Skip: 1, Bad: 1})
	pushed(t, api.Feed{}, append(told(1025, several(1025)), 0), api.Feed{Buf: unhex("00"), Bad: 1})
	pushed(t, api.Feed{}, append(told(1025, several(1025)), 0, 0), api.Feed{Bad: 2})
	pushed(t, api.Feed{}, append(told(1025, several(1025)), 0, 1, 6), api.Feed{Bad: 1}, []byte{6})
	pushed(t, api.Feed{}, append(told(65535, make([]byte, 65535)), 0, 1, 6), api.Feed{Bad: 1}, []byte{6})
	pushed(t, api.Feed{}, told(65535, make([]byte, 65534)), api.Feed{Skip: 1, Bad: 1})
	pushed(t, api.Feed{}, told(0x0500, bytes.Repeat([]byte{0, 1, 7}, 426)), api.Feed{Skip: 2, Bad: 1})
	pushed(t, api.Feed{}, slices.Concat([]byte{0, 1, 5}, told(1025, several(1025)), told(2000, several(2000)), []byte{0, 1, 6}, told(1026, nil)), api.Feed{Skip: 1026, Bad: 3}, []byte{5}, []byte{6})
}

func TestPushPassesOver(t *testing.T) {
	pushed(t, api.Feed{Skip: 3, Bad: 1}, nil, api.Feed{Skip: 3, Bad: 1})
	pushed(t, api.Feed{Skip: 3, Bad: 1}, unhex("00"), api.Feed{Skip: 2, Bad: 1})
	pushed(t, api.Feed{Skip: 3, Bad: 1}, unhex("0000"), api.Feed{Skip: 1, Bad: 1})
	pushed(t, api.Feed{Skip: 3, Bad: 1}, unhex("0001 07"), api.Feed{Bad: 1}) // no frame: it is passed over
	pushed(t, api.Feed{Skip: 3, Bad: 1}, unhex("0001 07 00"), api.Feed{Buf: unhex("00"), Bad: 1})
	pushed(t, api.Feed{Skip: 3, Bad: 1}, unhex("0000 00 0000"), api.Feed{Bad: 2})
	pushed(t, api.Feed{Skip: 3, Bad: 1}, unhex("0401 04 0401"), api.Feed{Skip: 1025, Bad: 2})
	pushed(t, api.Feed{Skip: 1}, unhex("ff 0002 0102 0001"), api.Feed{Buf: unhex("0001")}, []byte{1, 2})
	pushed(t, api.Feed{Skip: 65535, Bad: -4}, make([]byte, 65534), api.Feed{Skip: 1, Bad: -4})
	pushed(t, api.Feed{Skip: 65535, Bad: -4}, append(make([]byte, 65535), 0, 1, 6), api.Feed{Bad: -4}, []byte{6})
}

func TestPushCountsRound(t *testing.T) {
	pushed(t, api.Feed{Bad: math.MaxInt}, unhex("0000"), api.Feed{Bad: math.MinInt})
	pushed(t, api.Feed{Bad: math.MaxInt - 1}, unhex("0000 0000 0000"), api.Feed{Bad: math.MinInt + 1})
	pushed(t, api.Feed{Bad: math.MaxInt}, unhex("0401"), api.Feed{Bad: math.MinInt, Skip: 1025})
	pushed(t, api.Feed{Bad: math.MinInt}, unhex("0000"), api.Feed{Bad: math.MinInt + 1})
	pushed(t, api.Feed{Bad: -1}, unhex("0000"), api.Feed{})
	pushed(t, api.Feed{Bad: math.MaxInt}, unhex("0001 05"), api.Feed{Bad: math.MaxInt}, []byte{5})
}

func TestPushOfEachNumber(t *testing.T) {
	behind := several(65536)
	for n := range 65536 {
		if n > 1100 && n < 65500 && n%97 != 0 {
			pushed(t, api.Feed{}, told(n, nil), api.Feed{Skip: n, Bad: 1})
			continue
		}
		b := told(n, behind[:n+1])
		next := b[n+2:]
		switch {
		case n == 0:
			pushed(t, api.Feed{}, b[:2], api.Feed{Bad: 1})
			pushed(t, api.Feed{}, b, api.Feed{Buf: next, Bad: 1})
		case n <= 1024:
			pushed(t, api.Feed{}, b[:n+1], api.Feed{Buf: b[:n+1]})
			pushed(t, api.Feed{}, b[:n+2], api.Feed{}, behind[:n])
			pushed(t, api.Feed{}, b, api.Feed{Buf: next}, behind[:n])
		default:
			pushed(t, api.Feed{}, b[:2], api.Feed{Skip: n, Bad: 1})
			pushed(t, api.Feed{}, b[:n+1], api.Feed{Skip: 1, Bad: 1})
			pushed(t, api.Feed{}, b[:n+2], api.Feed{Bad: 1})
			pushed(t, api.Feed{}, b, api.Feed{Buf: next, Bad: 1})
		}
	}
}

func TestPushBehindAnyFeed(t *testing.T) {
	all := append(shorts(), streams(20)...)
	for _, f := range rights() {
		for _, b := range all {
			want, frames := walk(f, b)
			pushed(t, f, b, want, frames...)
			if !frame.Right(want) {
				t.Fatalf("%x %d %d, behind %d bytes, isn't right", want.Buf, want.Skip, want.Bad, len(b))
			}
		}
	}
}

// P8.3

func TestEachCutOfAStream(t *testing.T) {
	for _, b := range shorts() {
		want, frames := walk(api.Feed{}, b)
		pushed(t, api.Feed{}, b, want, frames...)
		for cut := range len(b) + 1 {
			f, first := frame.Push(api.Feed{}, b[:cut])
			g, second := frame.Push(f, b[cut:])
			if !same(g, want) || !alike(append(first, second...), frames) || !frame.Right(f) || !frame.Right(g) {
				t.Fatalf("%d bytes, cut at %d: %x %d %d", len(b), cut, g.Buf, g.Skip, g.Bad)
			}
		}
	}
}

func TestAllCutsOfAShortStream(t *testing.T) {
	b := unhex("0002 0001 0000 0001 07 0003 01")
	for cuts := range 1 << (len(b) - 1) { // a bit a place at which it is cut
		var f api.Feed
		var l, got [][]byte
		from := 0
		for i := range b {
			if i == len(b)-1 || cuts>>i&1 == 1 {
				f, got = frame.Push(f, b[from:i+1])
				l = append(l, got...)
				from = i + 1
			}
		}
		if !same(f, api.Feed{Buf: unhex("0003 01"), Bad: 1}) || !alike(l, [][]byte{{0, 1}, {7}}) {
			t.Fatalf("cut as %b: %x, %x %d %d", cuts, l, f.Buf, f.Skip, f.Bad)
		}
	}
}

func TestAnyPiecesOfAStream(t *testing.T) {
	d := dice(3)
	count := 0
	for _, b := range streams(300) {
		want, frames := walk(api.Feed{}, b)
		count += len(frames)
		pushed(t, api.Feed{}, b, want, frames...)
		for _, most := range []int{1, 2, 3, 7, 100, 1026, 5000} {
			var f api.Feed
			var l, got [][]byte
			for rest := b; len(rest) > 0; {
				n := min(d.below(most+1), len(rest)) // none, too
				if most == 1 {
					n = 1
				}
				f, got = frame.Push(f, rest[:n])
				l = append(l, got...)
				rest = rest[n:]
				if !frame.Right(f) {
					t.Fatalf("%x %d %d isn't right", f.Buf, f.Skip, f.Bad)
				}
			}
			if !same(f, want) || !frame.Same(f, want) || !alike(l, frames) {
				t.Fatalf("%d bytes, in pieces of up to %d: %d frames, %x %d %d", len(b), most, len(l), f.Buf, f.Skip, f.Bad)
			}
		}
	}
	if count < 300 {
		t.Fatalf("in all streams %d frames", count)
	}
}

func TestWhatIsPackedComesOut(t *testing.T) {
	for n := 1; n <= 1024; n++ {
		b := several(n)
		x, e := frame.Pack(b)
		if e != api.OK {
			t.Fatal(n, e)
		}
		for _, bad := range []int{0, 7, math.MaxInt} {
			pushed(t, api.Feed{Bad: bad}, x, api.Feed{Bad: bad}, b)
		}
	}
	d := dice(5)
	for range 300 {
		var stream []byte
		var in [][]byte
		for range d.below(20) {
			b := d.some(1 + d.below(1024))
			x, _ := frame.Pack(b)
			in = append(in, b)
			stream = append(stream, x...)
		}
		pushed(t, api.Feed{}, stream, api.Feed{}, in...)
		cut := d.below(len(stream) + 1)
		f, first := frame.Push(api.Feed{}, stream[:cut])
		if f, second := frame.Push(f, stream[cut:]); !same(f, api.Feed{}) || !alike(append(first, second...), in) {
			t.Fatalf("of %d that were packed %d came out", len(in), len(first)+len(second))
		}
	}
}

// R1

func TestEachCallEndsWhateverItIsGiven(t *testing.T) {
	all := append(shorts(), streams(20)...)
	for _, f := range wrongs() {
		for _, b := range all {
			frame.Push(f, b)
		}
		frame.Same(f, f)
	}
}

// R3 and R4

func TestWhatIsHandedInStays(t *testing.T) {
	room := bytes.Repeat([]byte{0xee}, 3000)
	for _, f := range rights() {
		for _, b := range [][]byte{nil, unhex("00"), unhex("0001 05"), unhex("02 0506 0001 07 0000"), several(2000)} {
			buf := append(bytes.Clone(f.Buf), room...) // bytes of somebody else's, behind what is handed in
			in := append(bytes.Clone(b), room...)
			keptBuf, keptIn := bytes.Clone(buf), bytes.Clone(in)
			given := api.Feed{Buf: buf[:len(f.Buf)], Skip: f.Skip, Bad: f.Bad}
			g, l := frame.Push(given, in[:len(b)])
			frame.Right(given)
			frame.Same(given, f)
			frame.Pack(in[:len(b)])
			for _, x := range append(l, g.Buf) {
				for i := range x {
					x[i] = 0xdd
				}
				_ = append(x, bytes.Repeat([]byte{0xcc}, 1000)...)
			}
			if !bytes.Equal(buf, keptBuf) || !bytes.Equal(in, keptIn) || !same(given, f) {
				t.Fatalf("%x %d %d, or the %d bytes, changed", f.Buf, f.Skip, f.Bad, len(b))
			}
		}
	}
}

func TestAnswersAreApartFromWhatIsHandedIn(t *testing.T) {
	f := api.Feed{Buf: unhex("0003 01"), Bad: 2}
	b := unhex("0203 0001 07 0002 08")
	g, l := frame.Push(f, b)
	clear(f.Buf)
	clear(b)
	if !same(g, api.Feed{Buf: unhex("0002 08"), Bad: 2}) || !alike(l, [][]byte{{1, 2, 3}, {7}}) {
		t.Fatalf("what came out changed with what was handed in: %x, %x", g.Buf, l)
	}
	in := []byte{1, 2}
	x, _ := frame.Pack(in)
	clear(in)
	if !bytes.Equal(x, unhex("0002 0102")) {
		t.Fatalf("a frame changed with what it holds: %x", x)
	}
	waits := api.Feed{Buf: unhex("0003 01")}
	again, _ := frame.Push(waits, nil)
	clear(waits.Buf)
	if !same(again, api.Feed{Buf: unhex("0003 01")}) {
		t.Fatalf("what waits changed with what was handed in: %x", again.Buf)
	}
}

func TestFramesAreApartFromEachOther(t *testing.T) {
	stream := unhex("0002 0102 0001 03 0000 0003 040506 0004 07")
	want := [][]byte{{1, 2}, {3}, {4, 5, 6}}
	waits := api.Feed{Buf: unhex("0004 07"), Bad: 1}
	for i := range want {
		f, l := frame.Push(api.Feed{}, stream)
		_ = append(l[i], 0xee, 0xee, 0xee, 0xee, 0xee, 0xee, 0xee, 0xee)
		if !alike(l, want) || !same(f, waits) {
			t.Fatalf("who appends to frame %d changes %x, %x", i, l, f.Buf)
		}
		clear(l[i])
		for j := range l {
			if i != j && !bytes.Equal(l[j], want[j]) {
				t.Fatalf("who clears frame %d changes frame %d", i, j)
			}
		}
		if !same(f, waits) {
			t.Fatalf("who clears frame %d changes what waits: %x", i, f.Buf)
		}
	}
	f, l := frame.Push(api.Feed{}, stream)
	_ = append(f.Buf, 0xee, 0xee, 0xee, 0xee)
	clear(f.Buf)
	if !alike(l, want) {
		t.Fatalf("who clears what waits changes %x", l)
	}
}

func TestLaterCallsLeaveWhatCameOut(t *testing.T) {
	f, l := frame.Push(api.Feed{}, unhex("0001 07 0006 0102"))
	kept, keptFrames := deep(f), deeps(l)
	g, a := frame.Push(f, unhex("0304")) // two streams that part here
	h, b := frame.Push(f, unhex("0a0b"))
	one, two := deep(g), deep(h)
	_, c := frame.Push(g, unhex("0506 0001 09"))
	_, d := frame.Push(h, unhex("0c0d 0001 08"))
	if len(a) != 0 || len(b) != 0 || !alike(c, [][]byte{{1, 2, 3, 4, 5, 6}, {9}}) || !alike(d, [][]byte{{1, 2, 10, 11, 12, 13}, {8}}) {
		t.Fatalf("%x, %x, %x, %x", a, b, c, d)
	}
	if !same(f, kept) || !alike(l, keptFrames) || !same(g, one) || !same(h, two) {
		t.Fatalf("later calls changed %x, %x, %x or %x", f.Buf, l, g.Buf, h.Buf)
	}
	c2, d2 := deeps(c), deeps(d)
	frame.Push(g, unhex("1111 0002 22"))
	if !alike(c, c2) || !alike(d, d2) {
		t.Fatalf("later calls changed %x or %x", c, d)
	}
}

func TestTheSameIsAnsweredEachTime(t *testing.T) {
	for _, b := range append(shorts(), streams(30)...) {
		f, l := frame.Push(api.Feed{Bad: 9}, b)
		g, m := frame.Push(api.Feed{Bad: 9, Buf: make([]byte, 0, 4000)}, append(make([]byte, 0, 5000), b...))
		if !same(f, g) || !alike(l, m) {
			t.Fatalf("%d bytes: %x, then %x", len(b), l, m)
		}
	}
}
