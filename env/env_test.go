package env_test

import (
	"bytes"
	"encoding/binary"
	"encoding/hex"
	"math"
	"testing"

	"yett/api"
	"yett/env"
)

const (
	last = 4611686018427387904 // 2^62, the greatest epoch and number
	gens = 2147483647          // 2^31 - 1, the greatest generation
	head = 30                  // bytes ahead of the body
	most = 900                 // bytes of a body
)

// dice tells numbers that look thrown, always the same ones from one seed.
type dice uint64

func (d *dice) below(n int) int {
	*d = *d*6364136223846793005 + 1442695040888963407
	return int(uint64(*d) >> 33 % uint64(n))
}

// some are n bytes that look thrown.
func (d *dice) some(n int) []byte {
	out := make([]byte, n)
	for i := range out {
		out[i] = byte(d.below(256))
	}
	return out
}

// number is one from 0 to a greatest one, and often near an end or of few bits.
func (d *dice) number(top int) int {
	switch d.below(4) {
	case 0:
		return d.below(3)
	case 1:
		return top - d.below(3)
	case 2:
		return min(top, 1<<d.below(63))
	}
	return (d.below(1<<31)<<31 | d.below(1<<31)) % (top + 1)
}

// right is a right envelope that looks thrown.
func (d *dice) right() api.Env {
	n := 1 + d.below(40)
	if d.below(20) == 0 {
		n = most - d.below(3)
	}
	return api.Env{Kind: 1 + d.below(2), Dir: d.below(2), E: [2]int{d.number(last), d.number(last)}, Gen: d.number(gens), Seq: d.number(last), Body: d.some(n), Tag: d.some(16)}
}

// plain is a right envelope, each of whose parts differs from the others.
func plain() api.Env {
	return api.Env{Kind: 2, Dir: 1, E: [2]int{0x0102030405060708, 0x1112131415161718}, Gen: 0x21222324, Seq: 0x3132333435363738, Body: []byte{0x41, 0x42, 0x43}, Tag: bytes.Repeat([]byte{0x5a}, 16)}
}

// deep is an envelope in memory of its own.
func deep(e api.Env) api.Env {
	e.Body, e.Tag = bytes.Clone(e.Body), bytes.Clone(e.Tag)
	return e
}

// rights are right envelopes, with each part at its edges.
func rights() []api.Env {
	out := []api.Env{plain()}
	for _, kind := range []int{1, 2} {
		for _, dir := range []int{0, 1} {
			for _, x := range []int{0, 1, 255, 256, 1<<32 - 1, 1 << 32, last - 1, last} {
				for _, g := range []int{0, 1, 255, 256, 1 << 24, gens - 1, gens} {
					for _, n := range []int{1, 2, 899, 900} {
						e := api.Env{Kind: kind, Dir: dir, E: [2]int{x, last - x}, Gen: g, Seq: x / 2, Body: bytes.Repeat([]byte{byte(x)}, n), Tag: bytes.Repeat([]byte{byte(g)}, 16)}
						f := deep(e)
						f.E, f.Seq = [2]int{last - x, x}, last-x
						out = append(out, e, f)
					}
				}
			}
		}
	}
	d := dice(12)
	for range 500 {
		out = append(out, d.right())
	}
	return out
}

// outs are numbers that aren't from 0 to a greatest one.
func outs(top int) []int {
	return []int{-1, -2, -255, -256, -last, math.MinInt, math.MinInt + 1, top + 1, top + 2, top | 1<<62 + 1, math.MaxInt, math.MaxInt - 1}
}

// turns are what turns a part of a right envelope into one that may not be.
func turns() []func(e *api.Env) {
	var out []func(e *api.Env)
	for _, k := range append(outs(2), 0, 3, 4, 257, 258, 1<<32+1, 1<<32+2) {
		out = append(out, func(e *api.Env) { e.Kind = k })
	}
	for _, k := range append(outs(1), 2, 3, 255, 256, 257, 1<<32, 1<<32+1) {
		out = append(out, func(e *api.Env) { e.Dir = k })
	}
	for _, k := range append(outs(gens), 1<<32, 1<<32+1, 1<<40) {
		out = append(out, func(e *api.Env) { e.Gen = k })
	}
	for _, k := range outs(last) {
		out = append(out,
			func(e *api.Env) { e.E[0] = k }, func(e *api.Env) { e.E[1] = k }, func(e *api.Env) { e.E = [2]int{k, k} }, func(e *api.Env) { e.Seq = k })
	}
	for _, n := range []int{0, 901, 902, 946, 1000, 1024, 65536} {
		out = append(out, func(e *api.Env) { e.Body = make([]byte, n) })
	}
	return append(out, func(e *api.Env) { e.Body = nil }, func(e *api.Env) { *e = api.Env{} }, func(e *api.Env) { *e = api.Env{Tag: make([]byte, 16)} })
}

// noTags are what has not 16 bytes.
func noTags() [][]byte {
	out := [][]byte{nil}
	for _, n := range []int{0, 1, 8, 15, 17, 31, 32, 1000} {
		out = append(out, make([]byte, n))
	}
	return out
}

// tagged is what is tagged of an envelope, as the document tells it. (Not as the program lays it.)
func tagged(e api.Env) []byte {
	out := []byte{byte(e.Kind), byte(e.Dir)}
	out = binary.BigEndian.AppendUint64(out, uint64(e.E[0]))
	out = binary.BigEndian.AppendUint64(out, uint64(e.E[1]))
	out = binary.BigEndian.AppendUint32(out, uint32(e.Gen))
	out = binary.BigEndian.AppendUint64(out, uint64(e.Seq))
	return append(out, e.Body...)
}

// whole is an envelope's bytes, as the document tells them. (Not as the program lays them.)
func whole(e api.Env) []byte { return append(tagged(e), e.Tag...) }

// taken is the envelope of bytes, and whether they are one's; they have from 47 to 946. (Not as the program takes it.)
func taken(b []byte) (api.Env, bool) {
	n := []uint64{uint64(b[0]), uint64(b[1]), binary.BigEndian.Uint64(b[2:]), binary.BigEndian.Uint64(b[10:]), uint64(binary.BigEndian.Uint32(b[18:])), binary.BigEndian.Uint64(b[22:])}
	for i, top := range []uint64{2, 1, last, last, gens, last} {
		if n[i] > top || i == 0 && n[i] == 0 {
			return api.Env{}, false
		}
	}
	return api.Env{Kind: int(n[0]), Dir: int(n[1]), E: [2]int{int(n[2]), int(n[3])}, Gen: int(n[4]), Seq: int(n[5]), Body: b[head : len(b)-16], Tag: b[len(b)-16:]}, true
}

// same: are two envelopes the same? (Not as the program asks it.)
func same(a, b api.Env) bool {
	l := []int{a.Kind - b.Kind, a.Dir - b.Dir, a.E[0] - b.E[0], a.E[1] - b.E[1], a.Gen - b.Gen, a.Seq - b.Seq}
	for _, n := range l {
		if n != 0 {
			return false
		}
	}
	return string(a.Body) == string(b.Body) && string(a.Tag) == string(b.Tag)
}

// blank: is it the envelope that an error answers?
func blank(e api.Env) bool { return same(e, api.Env{}) }

// changes are envelopes that differ from one in one part that is tagged.
func changes(e api.Env) []api.Env {
	var out []api.Env
	turn := func(f func(e *api.Env)) {
		x := deep(e)
		f(&x)
		out = append(out, x)
	}
	for bit := range 64 {
		turn(func(e *api.Env) { e.Kind ^= 1 << bit })
		turn(func(e *api.Env) { e.Dir ^= 1 << bit })
		turn(func(e *api.Env) { e.E[0] ^= 1 << bit })
		turn(func(e *api.Env) { e.E[1] ^= 1 << bit })
		turn(func(e *api.Env) { e.Gen ^= 1 << bit })
		turn(func(e *api.Env) { e.Seq ^= 1 << bit })
	}
	for i := range e.Body {
		if i > 8 && i < len(e.Body)-8 && i%97 != 0 || i > 2000 { // of long ones, some of the bytes
			continue
		}
		turn(func(e *api.Env) { e.Body[i] ^= 1 })
		turn(func(e *api.Env) { e.Body[i] ^= 128 })
	}
	turn(func(e *api.Env) { e.Body = append(e.Body, 0) })
	if len(e.Body) > 0 {
		turn(func(e *api.Env) { e.Body = e.Body[1:] })
		turn(func(e *api.Env) { e.Body = e.Body[:len(e.Body)-1] })
	}
	if e.E[0] != e.E[1] {
		turn(func(e *api.Env) { e.E[0], e.E[1] = e.E[1], e.E[0] })
	}
	return out
}

// others are envelopes that differ from one in the tag alone.
func others(e api.Env) []api.Env {
	var out []api.Env
	for i := range e.Tag {
		for _, bit := range []byte{1, 128} {
			x := deep(e)
			x.Tag[i] ^= bit
			out = append(out, x)
		}
	}
	for _, tag := range noTags() {
		x := deep(e)
		x.Tag = tag
		if len(tag) != len(e.Tag) {
			out = append(out, x)
		}
	}
	return out
}

// refuses: does a call answer this error, and no bytes?
func refuses(b []byte, e, want api.Errno) bool { return e == want && len(b) == 0 }

// P12.1

func TestRightEnvelopes(t *testing.T) {
	for _, e := range rights() {
		if !env.Right(e) {
			t.Fatalf("%v isn't right", e)
		}
	}
}

func TestRightAsksForEachPart(t *testing.T) {
	for _, e := range rights()[:200] {
		for i, turn := range turns() {
			x := deep(e)
			turn(&x)
			if env.Right(x) {
				t.Fatalf("turn %d: %v is right", i, x)
			}
		}
		for _, tag := range noTags() {
			x := deep(e)
			x.Tag = tag
			if env.Right(x) {
				t.Fatalf("a tag of %d bytes: %v is right", len(tag), x)
			}
		}
	}
}

func TestRightOfEachKindAndDirection(t *testing.T) {
	for kind := -300; kind <= 300; kind++ {
		for dir := -3; dir <= 300; dir++ {
			e := plain()
			e.Kind, e.Dir = kind, dir
			if want := (kind == 1 || kind == 2) && (dir == 0 || dir == 1); env.Right(e) != want {
				t.Fatalf("of kind %d and direction %d: %t", kind, dir, !want)
			}
		}
	}
}

func TestRightOfEachLength(t *testing.T) {
	for n := range 1100 {
		e := plain()
		e.Body = make([]byte, n)
		if env.Right(e) != (n >= 1 && n <= 900) {
			t.Errorf("a body of %d bytes: %t", n, env.Right(e))
		}
		e = plain()
		e.Tag = make([]byte, n)
		if env.Right(e) != (n == 16) {
			t.Errorf("a tag of %d bytes: %t", n, env.Right(e))
		}
	}
}

func TestInputIsWhatIsTagged(t *testing.T) {
	for _, e := range rights() {
		if b, f := env.Input(e); f != api.OK || !bytes.Equal(b, tagged(e)) || len(b) != head+len(e.Body) {
			t.Fatalf("Input(%v) = %x, %d", e, b, f)
		}
	}
}

func TestInputByHand(t *testing.T) {
	for _, x := range []struct {
		e    api.Env
		want string
	}{
		{api.Env{Kind: 2, Dir: 1, E: [2]int{3, 4}, Gen: 1, Body: []byte{0xff}}, "0201" + "0000000000000003" + "0000000000000004" + "00000001" + "0000000000000000" + "ff"},
		{api.Env{Kind: 1, Body: []byte{0}}, "0100" + "0000000000000000" + "0000000000000000" + "00000000" + "0000000000000000" + "00"},
		{api.Env{Kind: 1, E: [2]int{last, 0}, Body: []byte("ab")}, "0100" + "4000000000000000" + "0000000000000000" + "00000000" + "0000000000000000" + "6162"},
		{api.Env{Kind: 1, E: [2]int{0, last}, Body: []byte("ab")}, "0100" + "0000000000000000" + "4000000000000000" + "00000000" + "0000000000000000" + "6162"},
		{api.Env{Kind: 2, Dir: 1, Gen: gens, Seq: last, Body: []byte("ab")}, "0201" + "0000000000000000" + "0000000000000000" + "7fffffff" + "4000000000000000" + "6162"},
		{plain(), "0201" + "0102030405060708" + "1112131415161718" + "21222324" + "3132333435363738" + "414243"},
	} {
		if b, f := env.Input(x.e); f != api.OK || hex.EncodeToString(b) != x.want {
			t.Errorf("Input(%v) = %x, %d", x.e, b, f)
		}
	}
}

func TestInputDoesNotAskForTheTag(t *testing.T) {
	for _, e := range rights()[:200] {
		for _, x := range others(e) {
			if b, f := env.Input(x); f != api.OK || !bytes.Equal(b, tagged(e)) {
				t.Fatalf("Input(%v) = %x, %d", x, b, f)
			}
		}
	}
}

func TestInputOfPartsThatMayNotBe(t *testing.T) {
	for _, e := range rights()[:200] {
		for i, turn := range turns() {
			for _, tag := range append(noTags(), e.Tag) {
				x := deep(e)
				x.Tag = tag
				turn(&x)
				if b, f := env.Input(x); !refuses(b, f, api.ErrArg) {
					t.Fatalf("turn %d: Input(%v) = %x, %d", i, x, b, f)
				}
			}
		}
	}
}

func TestSameAsksForEachPart(t *testing.T) {
	l := rights()[:40]
	for _, turn := range turns() { // of any
		x := plain()
		turn(&x)
		l = append(l, x)
	}
	for _, e := range l {
		if !env.Same(e, e) || !env.Same(e, deep(e)) || !env.Same(deep(e), e) {
			t.Fatalf("%v isn't the same as itself", e)
		}
		for _, x := range append(changes(e), others(e)...) {
			if env.Same(e, x) || env.Same(x, e) {
				t.Fatalf("%v is the same as %v", e, x)
			}
		}
	}
}

func TestSameOfAnyTwo(t *testing.T) {
	l := append(rights()[:60], api.Env{}, api.Env{Body: []byte{}}, api.Env{Tag: []byte{}}, api.Env{Body: []byte{0}}, api.Env{Tag: []byte{0}}, api.Env{Body: make([]byte, 2000)}, api.Env{E: [2]int{1, 0}}, api.Env{E: [2]int{0, 1}})
	for _, a := range l {
		for _, b := range l {
			if env.Same(a, b) != same(a, b) {
				t.Fatalf("Same(%v, %v) is not %t", a, b, same(a, b))
			}
		}
	}
	if !env.Same(api.Env{}, api.Env{Body: []byte{}, Tag: []byte{}}) {
		t.Error("a list without elements may be nil")
	}
	if env.Same(api.Env{Body: []byte{1, 2}, Tag: []byte{3}}, api.Env{Body: []byte{1}, Tag: []byte{2, 3}}) {
		t.Error("where the body ends counts")
	}
}

// P12.2

func TestWriteIsTheBytes(t *testing.T) {
	for _, e := range rights() {
		if b, f := env.Write(e); f != api.OK || !bytes.Equal(b, whole(e)) || len(b) != head+len(e.Body)+16 {
			t.Fatalf("Write(%v) = %x, %d", e, b, f)
		}
	}
}

func TestWriteByHand(t *testing.T) {
	b, f := env.Write(plain())
	if f != api.OK || hex.EncodeToString(b) != "0201"+"0102030405060708"+"1112131415161718"+"21222324"+"3132333435363738"+"414243"+"5a5a5a5a5a5a5a5a5a5a5a5a5a5a5a5a" {
		t.Errorf("%x, %d", b, f)
	}
}

func TestWriteOfWhatIsNotRight(t *testing.T) {
	for _, e := range rights()[:200] {
		for i, turn := range turns() {
			x := deep(e)
			turn(&x)
			if b, f := env.Write(x); !refuses(b, f, api.ErrArg) {
				t.Fatalf("turn %d: Write(%v) = %x, %d", i, x, b, f)
			}
		}
		for _, tag := range noTags() {
			x := deep(e)
			x.Tag = tag
			if b, f := env.Write(x); !refuses(b, f, api.ErrArg) {
				t.Fatalf("Write(%v) = %x, %d", x, b, f)
			}
		}
	}
}

// P12.3

func TestReadIsTheEnvelope(t *testing.T) {
	for _, e := range rights() {
		if x, f := env.Read(whole(e)); f != api.OK || !same(x, e) || !env.Right(x) {
			t.Fatalf("Read(%x) = %v, %d", whole(e), x, f)
		}
	}
}

func TestReadOfEachLength(t *testing.T) {
	for _, first := range []byte{0, 1, 2, 3, 255} {
		all := append([]byte{first, 1}, bytes.Repeat([]byte{7}, 1100)...)
		for n := range 1100 {
			want := api.OK
			switch {
			case n < 47:
				want = api.ErrShort
			case n > 946:
				want = api.ErrLong
			case first != 1 && first != 2:
				want = api.ErrForm
			}
			x, f := env.Read(all[:n])
			if f != want || f != api.OK && !blank(x) {
				t.Fatalf("%d bytes: %v, %d", n, x, f)
			}
			if f == api.OK && (len(x.Body) != n-46 || !bytes.Equal(whole(x), all[:n])) {
				t.Fatalf("%d bytes: %v", n, x)
			}
		}
	}
	for _, b := range [][]byte{nil, {}} {
		if x, f := env.Read(b); f != api.ErrShort || !blank(x) {
			t.Errorf("%v, %d", x, f)
		}
	}
}

func TestReadOfLengthsFirst(t *testing.T) {
	for _, fill := range []byte{0, 1, 2, 3, 128, 255} {
		for n, want := range map[int]api.Errno{1: api.ErrShort, 2: api.ErrShort, 30: api.ErrShort, 45: api.ErrShort, 46: api.ErrShort, 947: api.ErrLong, 948: api.ErrLong, 1024: api.ErrLong, 100000: api.ErrLong} {
			if x, f := env.Read(bytes.Repeat([]byte{fill}, n)); f != want || !blank(x) {
				t.Errorf("%d bytes of %d: %v, %d", n, fill, x, f)
			}
		}
		for _, n := range []int{47, 48, 900, 945, 946} {
			if x, f := env.Read(bytes.Repeat([]byte{fill}, n)); fill != 1 && (f != api.ErrForm || !blank(x)) {
				t.Errorf("%d bytes of %d: %v, %d", n, fill, x, f)
			}
		}
	}
}

func TestReadAsksForEachNumber(t *testing.T) {
	for _, x := range []struct {
		at   int
		put  string
		want api.Errno
	}{
		{0, "00", api.ErrForm}, {0, "01", api.OK}, {0, "02", api.OK}, {0, "03", api.ErrForm}, {0, "81", api.ErrForm}, {0, "ff", api.ErrForm},
		{1, "00", api.OK}, {1, "01", api.OK}, {1, "02", api.ErrForm}, {1, "80", api.ErrForm}, {1, "ff", api.ErrForm},
		{18, "00000000", api.OK}, {18, "7fffffff", api.OK}, {18, "80000000", api.ErrForm}, {18, "80000001", api.ErrForm}, {18, "ffffffff", api.ErrForm},
	} {
		readWith(t, x.at, x.put, x.want)
	}
	for _, at := range []int{2, 10, 22} {
		for put, want := range map[string]api.Errno{
			"0000000000000000": api.OK, "0000000000000001": api.OK, "3fffffffffffffff": api.OK, "4000000000000000": api.OK,
			"4000000000000001": api.ErrForm, "4100000000000000": api.ErrForm, "7fffffffffffffff": api.ErrForm,
			"8000000000000000": api.ErrForm, "8000000000000001": api.ErrForm, "c000000000000000": api.ErrForm, "ffffffffffffffff": api.ErrForm, "ffffffffffffff00": api.ErrForm,
		} {
			readWith(t, at, put, want)
		}
	}
}

// readWith reads bytes of envelopes of some lengths, in which others stand at a place.
func readWith(t *testing.T, at int, put string, want api.Errno) {
	t.Helper()
	for _, n := range []int{1, 2, 100, 900} {
		e := plain()
		e.Body = bytes.Repeat([]byte{1}, n)
		b := whole(e)
		hex.Decode(b[at:], []byte(put))
		x, f := env.Read(b)
		if f != want || f != api.OK && !blank(x) || f == api.OK && !bytes.Equal(whole(x), b) {
			t.Errorf("%s at %d: %v, %d", put, at, x, f)
		}
	}
}

func TestReadOfAnyBytes(t *testing.T) {
	d := dice(3)
	good := 0
	for range 60000 {
		b := d.some(47 + d.below(60))
		if d.below(8) != 0 { // near ones of an envelope
			e := d.right()
			e.Body = e.Body[:min(len(e.Body), 50)]
			b = whole(e)
			for range d.below(3) {
				b[d.below(head)] ^= byte(1 << d.below(8))
			}
		}
		want, is := taken(b)
		x, f := env.Read(b)
		if is && (f != api.OK || !same(x, want)) || !is && (f != api.ErrForm || !blank(x)) {
			t.Fatalf("Read(%x) = %v, %d", b, x, f)
		}
		if is {
			good++
		}
	}
	if good < 10000 || good > 50000 {
		t.Errorf("%d of the bytes are an envelope's", good)
	}
}

// P12.4

func TestWhatIsWrittenIsRead(t *testing.T) {
	d := dice(4)
	l := rights()
	for range 3000 {
		l = append(l, d.right())
	}
	for _, e := range l {
		b, f := env.Write(e)
		x, g := env.Read(b)
		if f != api.OK || g != api.OK || !same(x, e) || !env.Same(x, e) {
			t.Fatalf("%v: %x, %v, %d, %d", e, b, x, f, g)
		}
	}
}

func TestWhatIsReadIsWritten(t *testing.T) {
	d := dice(5)
	for range 20000 {
		b := d.some(47 + d.below(900))
		b[0], b[1] = byte(1+d.below(2)), byte(d.below(2))
		for _, at := range []int{2, 10, 18, 22} {
			b[at] &= 63
		}
		e, f := env.Read(b)
		if f != api.OK {
			t.Fatalf("Read(%x): %d", b, f)
		}
		if c, g := env.Write(e); g != api.OK || !bytes.Equal(b, c) {
			t.Fatalf("%x: %v, then %x, %d", b, e, c, g)
		}
	}
}

func TestWhatIsTaggedTellsAllButTheTag(t *testing.T) {
	for _, e := range append(rights()[:40], rights()[450:500]...) {
		b, _ := env.Input(e)
		for _, x := range changes(e) {
			if c, f := env.Input(x); f == api.OK && bytes.Equal(b, c) {
				t.Fatalf("of %v and %v the same is tagged", e, x)
			}
		}
		for _, x := range others(e) {
			if c, f := env.Input(x); f != api.OK || !bytes.Equal(b, c) {
				t.Fatalf("of %v and %v there isn't the same tagged", e, x)
			}
		}
	}
	l := rights()
	seen := map[string]api.Env{}
	for _, e := range l {
		b, _ := env.Input(e)
		bare := e
		bare.Tag = nil
		if x, is := seen[string(b)]; is && !same(x, bare) {
			t.Fatalf("of %v and %v the same is tagged", e, x)
		}
		seen[string(b)] = bare
	}
}

func TestEachByteOfAnEnvelopeCounts(t *testing.T) {
	e := plain()
	b := whole(e)
	for i := range b {
		for bit := range 8 {
			c := bytes.Clone(b)
			c[i] ^= 1 << bit
			if x, f := env.Read(c); f == api.OK && same(x, e) || f != api.OK && (f != api.ErrForm || !blank(x)) {
				t.Errorf("bit %d of byte %d: %v, %d", bit, i, x, f)
			}
		}
	}
}

// R1, R3 and R4

func TestEachCallEndsWhateverItIsGiven(t *testing.T) {
	l := []api.Env{{}, {Body: make([]byte, 1<<20), Tag: make([]byte, 1<<20)}}
	for _, n := range outs(last) {
		l = append(l, api.Env{Kind: n, Dir: n, E: [2]int{n, n}, Gen: n, Seq: n, Body: []byte{1}, Tag: make([]byte, 16)})
	}
	for _, e := range l {
		if env.Right(e) || !env.Same(e, e) {
			t.Errorf("%v", e.Kind)
		}
		if b, f := env.Input(e); !refuses(b, f, api.ErrArg) {
			t.Errorf("%v: %d", e.Kind, f)
		}
		if b, f := env.Write(e); !refuses(b, f, api.ErrArg) {
			t.Errorf("%v: %d", e.Kind, f)
		}
	}
	if x, f := env.Read(make([]byte, 1<<20)); f != api.ErrLong || !blank(x) {
		t.Error(f)
	}
}

func TestWhatIsHandedInStays(t *testing.T) {
	for _, e := range rights()[:300] {
		room := append(make([]byte, 0, 2000), e.Body...) // with room behind, into which nobody may write
		tags := append(make([]byte, 0, 2000), e.Tag...)
		spare, more := room[len(room):cap(room)], tags[len(tags):cap(tags)]
		x := e
		x.Body, x.Tag = room, tags
		env.Right(x)
		env.Input(x)
		env.Write(x)
		env.Same(x, e)
		if !same(x, e) || !bytes.Equal(spare, make([]byte, len(spare))) || !bytes.Equal(more, make([]byte, len(more))) {
			t.Fatalf("%v was written into", e)
		}
		b := whole(e)
		c := bytes.Clone(b)
		env.Read(b)
		if !bytes.Equal(b, c) {
			t.Fatalf("%x was written into", c)
		}
	}
}

// scratch writes into all of a row, and into what room it has.
func scratch(b []byte) {
	b = b[:cap(b)]
	for i := range b {
		b[i] ^= 255
	}
}

func TestAnswersAreNewMemory(t *testing.T) {
	for _, e := range rights()[:300] {
		mine := deep(e)
		in, _ := env.Input(mine)
		out, _ := env.Write(mine)
		scratch(mine.Body)
		scratch(mine.Tag)
		if !bytes.Equal(in, tagged(e)) || !bytes.Equal(out, whole(e)) {
			t.Fatalf("%v: what is answered hangs on what was handed in", e)
		}
		mine = deep(e)
		in, _ = env.Input(mine)
		out, _ = env.Write(mine)
		scratch(in)
		if !bytes.Equal(out, whole(e)) {
			t.Fatalf("%v: two answers share memory", e)
		}
		scratch(out)
		if !same(mine, e) {
			t.Fatalf("%v: what was handed in hangs on what is answered", e)
		}
	}
}

func TestWhatIsReadIsNewMemory(t *testing.T) {
	for _, e := range rights()[:300] {
		b := whole(e)
		x, _ := env.Read(b)
		y, _ := env.Read(b)
		scratch(b)
		if !same(x, e) {
			t.Fatalf("%v hangs on the bytes", e)
		}
		scratch(x.Body)
		if !bytes.Equal(x.Tag, e.Tag) || !same(y, e) {
			t.Fatalf("%v: body and tag share memory", e)
		}
		scratch(x.Tag)
		if !same(y, e) {
			t.Fatalf("%v: two answers share memory", e)
		}
	}
}

func TestTheSameIsAnsweredEachTime(t *testing.T) {
	for _, e := range rights()[:300] {
		a, f := env.Write(e)
		env.Write(plain())
		env.Read(whole(plain()))
		b, g := env.Write(e)
		x, h := env.Read(a)
		env.Read([]byte{1})
		y, i := env.Read(b)
		if !bytes.Equal(a, b) || f != g || h != i || !same(x, y) {
			t.Fatalf("%v: %x and %x", e, a, b)
		}
	}
}
