package field_test

import (
	"bytes"
	"math"
	"strings"
	"testing"

	"yett/api"
	"yett/dig"
	"yett/field"
)

// told is the document's table: of each kind its fields, each with its Len.
func told() map[int]map[int]int {
	return map[int]map[int]int{
		api.Num:   {3: 6, 4: 12, 7: 10, 11: 6, 12: 6, 13: 4, 14: 4, 15: 6, 18: 4, 22: 3, 25: 2, 49: 3, 53: 16, 70: 3, 90: 42},
		api.NumLL: {2: 19, 32: 11, 100: 11},
		api.Txt:   {37: 12, 38: 6, 39: 2, 41: 8, 42: 15, 95: 42},
		api.TxtLL: {35: 37, 102: 28},
		api.Txt3L: {48: 400, 54: 120},
		api.Bin:   {52: 8, 64: 8, 96: 8, 128: 8},
		api.Bin3L: {55: 255, 127: 400},
	}
}

// forms are the fields by their numbers.
func forms() map[int]api.Form {
	out := map[int]api.Form{}
	for kind, fields := range told() {
		for no, size := range fields {
			out[no] = api.Form{Kind: kind, Len: size}
		}
	}
	return out
}

// noFields are numbers of no field: neighbours of fields, and far ones.
func noFields() []int {
	out := []int{math.MinInt, -128, -2, -1, 129, 130, 258, 256 + 48, 1<<32 + 2, math.MaxInt}
	for no := 0; no <= 128; no++ {
		if _, is := forms()[no]; !is {
			out = append(out, no)
		}
	}
	return out
}

// fixed: has each value of a kind as many signs as its form tells?
func fixed(kind int) bool { return kind == api.Num || kind == api.Txt || kind == api.Bin }

// stands: may a sign stand in a value of a kind?
func stands(kind int, sign byte) bool {
	switch kind {
	case api.Num, api.NumLL:
		return strings.IndexByte("0123456789", sign) >= 0
	case api.Txt, api.TxtLL, api.Txt3L:
		return sign >= 32 && sign <= 126
	}
	return true
}

// value is a value of a kind, of n signs, all the signs of the kind one behind the other, from a first one on.
func value(kind, n, first int) []byte {
	out := make([]byte, n)
	for i := range out {
		switch kind {
		case api.Num, api.NumLL:
			out[i] = byte('0' + (first+i)%10)
		case api.Txt, api.TxtLL, api.Txt3L:
			out[i] = byte(32 + (first+i)%95)
		default:
			out[i] = byte(first + i)
		}
	}
	return out
}

// pack is figures, two in a byte.
func pack(figures string) []byte {
	if len(figures)%2 == 1 {
		figures = "0" + figures
	}
	out := []byte{}
	for i := 0; i < len(figures); i += 2 {
		out = append(out, (figures[i]-'0')<<4|(figures[i+1]-'0'))
	}
	return out
}

// hundreds are n as three figures.
func hundreds(n int) string {
	return string([]byte{byte('0' + n/100), byte('0' + n/10%10), byte('0' + n%10)})
}

// standing are a value's bytes, as the document tells them of each kind.
func standing(kind int, v []byte) []byte {
	switch kind {
	case api.Num:
		return pack(string(v))
	case api.NumLL:
		return append(pack(hundreds(len(v))[1:]), pack(string(v))...)
	case api.TxtLL:
		return append(pack(hundreds(len(v))[1:]), v...)
	case api.Txt3L, api.Bin3L:
		return append(pack(hundreds(len(v))), v...)
	}
	return bytes.Clone(v)
}

// sizes are how many signs a value of a form may have.
func sizes(f api.Form) []int {
	if fixed(f.Kind) {
		return []int{f.Len}
	}
	var out []int
	for n := 1; n <= f.Len; n++ {
		out = append(out, n)
	}
	return out
}

// refused: did Read answer this error, and nothing else?
func refused(t *testing.T, no int, b []byte, at int, want api.Errno) {
	t.Helper()
	if v, behind, e := field.Read(no, b, at); len(v) != 0 || behind != 0 || e != want {
		t.Fatalf("Read(%d, %x, %d) = %x, %d, %d, not %d", no, b, at, v, behind, e, want)
	}
}

// P5.1

func TestOfTellsTheFields(t *testing.T) {
	for no, want := range forms() {
		if f, is := field.Of(no); f != want || !is {
			t.Fatalf("Of(%d) = %v, %t, not %v", no, f, is, want)
		}
	}
	if len(forms()) != 34 {
		t.Fatalf("the document has %d fields", len(forms()))
	}
	for _, no := range noFields() {
		if f, is := field.Of(no); f != (api.Form{}) || is {
			t.Fatalf("Of(%d) = %v, %t", no, f, is)
		}
	}
}

func TestFitsAsksForTheCount(t *testing.T) {
	for no, f := range forms() {
		for n := 0; n <= f.Len+2; n++ {
			want := n == f.Len || !fixed(f.Kind) && n >= 1 && n < f.Len
			if field.Fits(no, value(f.Kind, n, 0)) != want {
				t.Fatalf("a value of %d signs of the field %d: not %t", n, no, want)
			}
		}
		for _, n := range []int{256, 256 + f.Len, 999, 1000, 1001, 1 << 16, 1<<16 + f.Len} {
			if n > f.Len && field.Fits(no, value(f.Kind, n, 0)) {
				t.Fatalf("a value of %d signs of the field %d", n, no)
			}
		}
		if field.Fits(no, nil) {
			t.Fatalf("no sign is a value of the field %d", no)
		}
	}
}

func TestFitsAsksForEachSign(t *testing.T) {
	for no, f := range forms() {
		for _, place := range []int{0, f.Len / 2, f.Len - 1} {
			for sign := range 256 {
				v := value(f.Kind, f.Len, 0)
				v[place] = byte(sign)
				if want := stands(f.Kind, byte(sign)); field.Fits(no, v) != want {
					t.Fatalf("%02x at the place %d of the field %d: not %t", sign, place, no, want)
				}
			}
		}
	}
}

func TestFitsOfNoField(t *testing.T) {
	for _, no := range noFields() {
		for _, v := range []string{"", "1", "12", "123", "1234", "123456", "12345678"} {
			if field.Fits(no, []byte(v)) {
				t.Fatalf("%q is a value of the field %d", v, no)
			}
		}
	}
}

// P5.2

func TestWriteTellsTheBytes(t *testing.T) {
	for _, x := range []struct {
		no   int
		v, b string
	}{
		{2, "4111", "044111"}, {2, "5", "0105"}, {2, "123", "030123"}, {2, "0000000000", "100000000000"}, {2, "9876543210987654321", "1909876543210987654321"},
		{22, "012", "0012"}, {22, "999", "0999"}, {25, "07", "07"}, {3, "003000", "003000"}, {90, strings.Repeat("019283", 7), strings.Repeat("019283", 7)},
		{32, "12345678901", "11012345678901"}, {39, "00", "3030"}, {39, " ~", "207e"}, {35, "4=9", "03343d39"}, {102, strings.Repeat("z", 28), "28" + strings.Repeat("7a", 28)},
		{48, "ab", "00026162"}, {48, "a", "000161"}, {48, strings.Repeat("q", 400), "0400" + strings.Repeat("71", 400)}, {54, strings.Repeat("1", 120), "0120" + strings.Repeat("31", 120)},
		{55, "\x00", "000100"}, {55, strings.Repeat("\xff", 255), "0255" + strings.Repeat("ff", 255)}, {52, "\x00\x01\x7f\x80\xff\x20\x30\x00", "00017f80ff203000"},
	} {
		if b, e := field.Write(x.no, []byte(x.v)); dig.Hex(b) != x.b || e != api.OK {
			t.Fatalf("Write(%d, %q) = %x, %d", x.no, x.v, b, e)
		}
	}
	for no, f := range forms() {
		for _, n := range sizes(f) {
			for _, first := range []int{0, 7, 31, 250} {
				v := value(f.Kind, n, first)
				if b, e := field.Write(no, v); !bytes.Equal(b, standing(f.Kind, v)) || e != api.OK {
					t.Fatalf("Write(%d, %x) = %x, %d", no, v, b, e)
				}
			}
		}
	}
}

func TestWriteRefuses(t *testing.T) {
	for _, no := range noFields() {
		for _, v := range []string{"", "1", "12345678", "\x00"} { // what is a value of another field, and what is of none
			if b, e := field.Write(no, []byte(v)); len(b) != 0 || e != api.ErrNone {
				t.Fatalf("Write(%d, %q) = %x, %d", no, v, b, e)
			}
		}
	}
	for no, f := range forms() {
		wrong := [][]byte{nil, value(f.Kind, f.Len+1, 0), value(f.Kind, 1000, 0), value(f.Kind, 1001, 0)}
		if fixed(f.Kind) {
			wrong = append(wrong, value(f.Kind, f.Len-1, 0), value(f.Kind, 1, 0))
		}
		for sign := range 256 {
			if !stands(f.Kind, byte(sign)) {
				v := value(f.Kind, f.Len, 0)
				v[f.Len-1] = byte(sign)
				wrong = append(wrong, v, append([]byte{byte(sign)}, v[1:]...))
			}
		}
		for _, v := range wrong {
			if b, e := field.Write(no, v); len(b) != 0 || e != api.ErrArg {
				t.Fatalf("Write(%d, %x) = %x, %d", no, v, b, e)
			}
		}
	}
}

// P5.3

func TestReadTakesTheValueAtAPlace(t *testing.T) {
	for no, f := range forms() {
		for _, n := range sizes(f) {
			v := value(f.Kind, n, 3*n)
			b := standing(f.Kind, v)
			for _, ahead := range []string{"", "\x99", "\x00\xff\x01\x04\x12"} {
				for _, behind := range []string{"", "\x00", "\xff\xff", "\x12\x34\x56"} {
					at := len(ahead)
					x, next, e := field.Read(no, []byte(ahead+string(b)+behind), at)
					if !bytes.Equal(x, v) || next != at+len(b) || e != api.OK {
						t.Fatalf("Read(%d) of %x at %d = %x, %d, %d", no, b, at, x, next, e)
					}
				}
			}
		}
	}
}

func TestReadOfNoField(t *testing.T) {
	for _, no := range noFields() {
		for _, at := range []int{math.MinInt, -1, 0, 4, 9, 10, math.MaxInt} { // also where the place isn't right
			refused(t, no, []byte("\x01\x11\x12\x34\x56\x78\x90\x12\x34"), at, api.ErrNone)
		}
	}
}

func TestReadAtNoPlace(t *testing.T) {
	for no, f := range forms() {
		b := standing(f.Kind, value(f.Kind, f.Len, 0))
		for _, at := range []int{math.MinInt, math.MinInt + 1, -2, -1, len(b) + 1, len(b) + 2, math.MaxInt - 1, math.MaxInt} {
			refused(t, no, b, at, api.ErrArg)
		}
		refused(t, no, nil, 1, api.ErrArg)
		refused(t, no, nil, -1, api.ErrArg)
		refused(t, no, nil, 0, api.ErrShort)
		refused(t, no, b, len(b), api.ErrShort)
	}
}

func TestReadOfBytesThatEndTooSoon(t *testing.T) {
	for no, f := range forms() {
		for _, n := range sizes(f) {
			b := standing(f.Kind, value(f.Kind, n, n))
			for end := range b {
				refused(t, no, b[:end:end], 0, api.ErrShort)
				refused(t, no, b[:end], 0, api.ErrShort) // with room behind
			}
			refused(t, no, append([]byte{0x01}, b[:len(b)-1]...), 1, api.ErrShort)
		}
	}
}

// lead is how many bytes tell how many there are.
func lead(kind int) int {
	switch kind {
	case api.NumLL, api.TxtLL:
		return 1
	case api.Txt3L, api.Bin3L:
		return 2
	}
	return 0
}

func TestReadAsksForTheCount(t *testing.T) {
	for no, f := range forms() {
		if fixed(f.Kind) {
			continue
		}
		size := lead(f.Kind)
		for x := range 1 << (8 * size) {
			count := []byte{byte(x >> 8), byte(x)}[2-size:]
			figures := dig.Hex(count)
			n, e := dig.Value(figures)
			full := append(bytes.Clone(count), bytes.Repeat([]byte{0x31}, 1000)...)
			if e != api.OK || n < 1 || n > f.Len {
				refused(t, no, full, 0, api.ErrForm)
				refused(t, no, count, 0, api.ErrForm) // ahead of ErrShort
				refused(t, no, append(bytes.Clone(count), 0xff), 0, api.ErrForm)
				continue
			}
			refused(t, no, count, 0, api.ErrShort)
			if v, at, e := field.Read(no, full, 0); f.Kind != api.NumLL && (len(v) != n || at != size+n || e != api.OK) {
				t.Fatalf("Read(%d) of %d: %d signs, %d, %d", no, n, len(v), at, e)
			}
		}
		if size == 2 {
			for x := range 256 { // a half of what tells it, whatever that is
				refused(t, no, []byte{byte(x)}, 0, api.ErrShort)
				refused(t, no, []byte{0x01, byte(x)}, 1, api.ErrShort)
			}
		}
	}
}

func TestReadAsksForEachSign(t *testing.T) {
	for no, f := range forms() {
		v := value(f.Kind, f.Len, 0)
		b := standing(f.Kind, v)
		for _, place := range []int{lead(f.Kind), (lead(f.Kind) + len(b)) / 2, len(b) - 1} {
			for x := range 256 {
				c := bytes.Clone(b)
				c[place] = byte(x)
				ok := stands(f.Kind, byte(x))
				if f.Kind == api.Num || f.Kind == api.NumLL {
					ok = x>>4 <= 9 && x&15 <= 9 && (f.Len%2 == 0 || place > lead(f.Kind) || x>>4 == 0)
				}
				got, at, e := field.Read(no, c, 0)
				if !ok {
					refused(t, no, c, 0, api.ErrForm)
					refused(t, no, c[:len(c)-1], 0, api.ErrShort) // ahead of ErrForm
				} else if at != len(c) || e != api.OK || !bytes.Equal(standing(f.Kind, got), c) {
					t.Fatalf("Read(%d, %x) = %x, %d, %d", no, c, got, at, e)
				}
			}
		}
	}
}

func TestReadOfAnOddCountOfFigures(t *testing.T) {
	for x := range 256 {
		b := []byte{0x03, byte(x), 0x23}
		if v, at, e := field.Read(2, b, 0); x <= 9 {
			if string(v) != string([]byte{byte('0' + x), '2', '3'}) || at != 3 || e != api.OK {
				t.Fatalf("Read(2, %x) = %q, %d, %d", b, v, at, e)
			}
		} else {
			refused(t, 2, b, 0, api.ErrForm)
		}
	}
}

// P5.4

func TestWhatIsWrittenIsRead(t *testing.T) {
	for no, f := range forms() {
		for _, n := range sizes(f) {
			for first := range 20 {
				v := value(f.Kind, n, 13*first+n)
				b, e := field.Write(no, v)
				for _, behind := range []string{"", "\x00", "\x99", "\xff\x00", string(b)} {
					x, at, g := field.Read(no, append([]byte{0x77}, string(b)+behind...), 1)
					if !bytes.Equal(x, v) || at != 1+len(b) || e != api.OK || g != api.OK {
						t.Fatalf("%x of the field %d, written and read: %d, %x, %d, %d", v, no, e, x, at, g)
					}
				}
			}
		}
	}
}

// dice tells numbers that look thrown, always the same ones from one seed.
type dice uint64

func (d *dice) below(n int) int {
	*d = *d*6364136223846793005 + 1442695040888963407
	return int(uint64(*d) >> 33 % uint64(n))
}

func TestWhatIsReadIsWritten(t *testing.T) {
	read := 0
	for no, f := range forms() {
		d := dice(no)
		for range 3000 {
			b := make([]byte, d.below(2*f.Len)+4)
			for i := range b {
				b[i] = byte(d.below(10)<<4 | d.below(10))
				if d.below(40) == 0 {
					b[i] = byte(d.below(256))
				}
			}
			if lead(f.Kind) == 2 {
				b[0] &= 3
			}
			if d.below(2) == 0 {
				b[lead(f.Kind)] &= 15
			}
			at := d.below(2)
			v, next, e := field.Read(no, b, at)
			if e != api.OK {
				continue
			}
			read++
			if x, g := field.Write(no, v); !bytes.Equal(x, b[at:next]) || g != api.OK || !field.Fits(no, v) {
				t.Fatalf("%x of the field %d is written again as %x, %d", b[at:next], no, x, g)
			}
		}
	}
	if read < 3000 {
		t.Fatalf("no more than %d rows of bytes were values", read)
	}
}

func TestNoValueBeginsAnother(t *testing.T) {
	for no, f := range forms() {
		var all [][]byte
		for _, n := range sizes(f) {
			if n > 40 && n < f.Len-2 && !fixed(f.Kind) {
				continue
			}
			long := value(f.Kind, n, 0)
			other := bytes.Clone(long)
			other[n-1] = value(f.Kind, 1, n)[0]
			all = append(all, long, other, value(f.Kind, n, 1), bytes.Repeat([]byte{'0'}, n))
		}
		for _, v := range all {
			for _, w := range all {
				b, _ := field.Write(no, v)
				c, _ := field.Write(no, w)
				if bytes.HasPrefix(c, b) != bytes.Equal(v, w) {
					t.Fatalf("%q and %q of the field %d: %x, %x", v, w, no, b, c)
				}
			}
		}
	}
}

// R3 and R4

func TestWhatIsHandedInStays(t *testing.T) {
	for no, f := range forms() {
		for _, n := range []int{1, f.Len, f.Len + 1} {
			room := append(value(f.Kind, n, 0), bytes.Repeat([]byte{0xee}, 40)...)
			kept := bytes.Clone(room)
			field.Fits(no, room[:n])
			field.Write(no, room[:n])
			bytesOf := append([]byte{0x01}, standing(f.Kind, value(f.Kind, f.Len, 0))...)
			read := bytes.Clone(bytesOf)
			field.Read(no, bytesOf[:len(bytesOf):len(bytesOf)], 1)
			field.Read(no, bytesOf[:len(bytesOf)-1], 1)
			if !bytes.Equal(room, kept) || !bytes.Equal(bytesOf, read) {
				t.Fatalf("the field %d: %x, %x", no, room, bytesOf)
			}
		}
	}
}

func TestAnswersAreApart(t *testing.T) {
	for no, f := range forms() {
		v := value(f.Kind, f.Len, 0)
		want := standing(f.Kind, v)
		b, _ := field.Write(no, v)
		clear(v)
		if !bytes.Equal(b, want) {
			t.Fatalf("the bytes of the field %d changed with the value: %x", no, b)
		}
		got, _, _ := field.Read(no, b, 0)
		clear(b)
		_ = append(b, 1, 2, 3)
		if !bytes.Equal(got, value(f.Kind, f.Len, 0)) {
			t.Fatalf("the value of the field %d changed with the bytes: %x", no, got)
		}
		clear(got)
		if again, at, e := field.Read(no, want, 0); !bytes.Equal(again, value(f.Kind, f.Len, 0)) || at != len(want) || e != api.OK {
			t.Fatalf("Read(%d) once more = %x, %d, %d", no, again, at, e)
		}
		if again, e := field.Write(no, value(f.Kind, f.Len, 0)); !bytes.Equal(again, want) || e != api.OK {
			t.Fatalf("Write(%d) once more = %x, %d", no, again, e)
		}
	}
}
