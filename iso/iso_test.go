package iso_test

import (
	"bytes"
	"math"
	"slices"
	"strconv"
	"strings"
	"testing"

	"yett/api"
	"yett/bitmap"
	"yett/dig"
	"yett/field"
	"yett/iso"
)

// dice tells numbers that look thrown, always the same ones from one seed.
type dice uint64

func (d *dice) below(n int) int {
	*d = *d*6364136223846793005 + 1442695040888963407
	return int(uint64(*d) >> 33 % uint64(n))
}

// there are the numbers of all fields, as chapter 5 tells them.
func there() []int {
	return []int{2, 3, 4, 7, 11, 12, 13, 14, 15, 18, 22, 25, 32, 35, 37, 38, 39, 41, 42, 48, 49, 52, 53, 54, 55, 64, 70, 90, 95, 96, 100, 102, 127, 128}
}

// noFields are numbers of no field: neighbours of fields, and far ones.
func noFields() []int {
	out := []int{math.MinInt, math.MinInt + 2, -1<<32 + 2, -128, -2, -1, 129, 130, 256 + 2, 1<<16 + 48, 1<<32 + 2, 1<<32 + 128, math.MaxInt}
	for no := range 129 {
		if !slices.Contains(there(), no) {
			out = append(out, no)
		}
	}
	return out
}

// value is a value of a field, of as many signs as may be: which of them, n tells.
func value(no, n int) []byte {
	f, _ := field.Of(no)
	out := make([]byte, f.Len)
	for i := range out {
		switch f.Kind {
		case api.Num, api.NumLL:
			out[i] = byte('0' + (n+i)%10)
		case api.Txt, api.TxtLL, api.Txt3L:
			out[i] = byte(32 + (n+i)%95)
		default:
			out[i] = byte(n + i)
		}
	}
	if f.Kind == api.NumLL || f.Kind == api.TxtLL || f.Kind == api.Txt3L || f.Kind == api.Bin3L {
		return out[:1+n%f.Len]
	}
	return out
}

// wrongs are rows of bytes that are no value of a field.
func wrongs(no int) [][]byte {
	f, _ := field.Of(no)
	long := bytes.Repeat([]byte{'1'}, f.Len+1)
	out := [][]byte{nil, {}, long, bytes.Repeat([]byte{'1'}, 1000)}
	if f.Kind == api.Num || f.Kind == api.Txt || f.Kind == api.Bin {
		out = append(out, long[:f.Len-1])
	}
	if f.Kind != api.Bin && f.Kind != api.Bin3L {
		out = append(out, append([]byte{0x1f}, long[2:]...), append(bytes.Clone(long[2:]), 0x7f))
	}
	return out
}

// msg is a message of a type that has these fields; n tells which values.
func msg(mti, n int, nos ...int) api.Msg {
	out := api.Msg{Mti: mti}
	for _, no := range nos {
		out.F = append(out.F, api.Val{No: no, B: value(no, n+no)})
	}
	return out
}

// with is a message of a type that has fields of these numbers, each of one sign.
func with(mti int, nos ...int) api.Msg {
	out := api.Msg{Mti: mti}
	for _, no := range nos {
		out.F = append(out.F, api.Val{No: no, B: []byte("1")})
	}
	return out
}

// types are all types, as the document tells them, one figure behind the other.
func types() []int {
	var out []int
	for _, class := range "12345678" {
		for _, function := range "01234" {
			for _, origin := range "012345" {
				n, err := strconv.Atoi("0" + string([]rune{class, function, origin}))
				if err != nil {
					panic(err)
				}
				out = append(out, n)
			}
		}
	}
	return out
}

// numbers are such as may be types, and such as may not.
func numbers() []int {
	out := []int{math.MinInt, math.MinInt + 200, math.MinInt + 1, -1<<32 + 200, -1<<16 + 200, 1<<16 + 200, 1<<32 + 200, 1<<32 + 800, math.MaxInt - 1, math.MaxInt}
	for n := -12000; n <= 70000; n++ {
		out = append(out, n)
	}
	return out
}

// lists are lists of fields: none, one, two, all, all but one, and thrown ones.
func lists() [][]int {
	all := there()
	out := [][]int{nil, {70}, {2, 4, 39}, {11, 70}, {2, 128}, {64, 70}, all}
	for i, no := range all {
		out = append(out, []int{no}, slices.Delete(slices.Clone(all), i, i+1), all[i:], all[:i])
	}
	d := dice(7)
	for range 300 {
		var l []int
		every := d.below(8) + 1
		for _, no := range all {
			if d.below(every) == 0 {
				l = append(l, no)
			}
		}
		out = append(out, l)
	}
	return out
}

// ofTypes are right messages of each type.
func ofTypes() []api.Msg {
	var out []api.Msg
	for i, mti := range types() {
		out = append(out, msg(mti, i), msg(mti, i, 11, 70))
	}
	return out
}

// ofLists are right messages of many lists of fields, and of many values.
func ofLists() []api.Msg {
	var out []api.Msg
	all := types()
	for i, l := range lists() {
		out = append(out, msg(all[i%len(all)], 7*i, l...), msg(200, 0, l...))
	}
	return out
}

// rights are right messages of many types, fields and values.
func rights() []api.Msg { return append(ofTypes(), ofLists()...) }

// some are every n-th message: enough of them, where each is asked for much.
func some(all []api.Msg, n int) []api.Msg {
	var out []api.Msg
	for i := 0; i < len(all); i += n {
		out = append(out, all[i])
	}
	return out
}

// wrongMessages are messages that aren't right: by their type, by what their fields' numbers are, or how they stand, or by a value.
func wrongMessages() []api.Msg {
	var out []api.Msg
	for _, mti := range []int{math.MinInt, -200, -1, 0, 1, 20, 99, 150, 190, 206, 209, 250, 299, 900, 906, 945, 1000, 1200, 2000, 10200, 1<<32 + 200, math.MaxInt} {
		out = append(out, msg(mti, 0), msg(mti, 0, 11, 70))
	}
	for _, no := range noFields() {
		out = append(out, with(800, no), api.Msg{Mti: 800, F: []api.Val{{No: no}}}, api.Msg{Mti: 800, F: []api.Val{{No: no, B: []byte("000001")}}})
	}
	for _, l := range [][]int{{2, 2}, {128, 128}, {4, 2}, {70, 11}, {2, 4, 4}, {2, 4, 2}, {2, 39, 4}, {11, 2, 4, 39}, {2, 4, 39, 11}, {2, 3, 4, 2, 3, 4}} {
		out = append(out, msg(200, 0, l...))
	}
	all := there()
	for i := range all {
		turned := slices.Clone(all)
		turned[i], turned[(i+1)%len(all)] = turned[(i+1)%len(all)], turned[i]
		out = append(out, msg(200, 0, turned...), msg(200, 0, slices.Insert(slices.Clone(all), i, all[i])...))
		for _, v := range wrongs(all[i]) {
			m := msg(200, 0, all...)
			m.F[i].B = v
			out = append(out, m, api.Msg{Mti: 200, F: []api.Val{{No: all[i], B: v}}})
		}
	}
	return append(out, api.Msg{Mti: 200, F: make([]api.Val, 1000)}, api.Msg{})
}

// standing are a right message's bytes, as the document tells them: bits by their signs, and values by chapter 5.
func standing(m api.Msg) []byte {
	mti := strconv.Itoa(m.Mti)
	out, _ := dig.Unhex("0" + mti)
	bits := []byte(strings.Repeat("0", 128))
	for _, v := range m.F {
		bits[v.No-1] = '1'
		if v.No > 64 {
			bits[0] = '1'
		}
	}
	if bits[0] == '0' {
		bits = bits[:64]
	}
	for i := 0; i < len(bits); i += 8 {
		x, _ := strconv.ParseUint(string(bits[i:i+8]), 2, 8)
		out = append(out, byte(x))
	}
	for _, v := range m.F {
		b, _ := field.Write(v.No, v.B)
		out = append(out, b...)
	}
	return out
}

// unhex is the bytes of signs, which stand in groups.
func unhex(s string) []byte {
	b, e := dig.Unhex(strings.ReplaceAll(s, " ", ""))
	if e != api.OK {
		panic(s)
	}
	return b
}

// same: are two messages the same? (Not as the program asks it.)
func same(a, b api.Msg) bool {
	return told(a) == told(b)
}

// told is a message as a text: each one's own.
func told(m api.Msg) string {
	out := strconv.Itoa(m.Mti)
	for _, v := range m.F {
		out += " " + strconv.Itoa(v.No) + ":" + dig.Hex(v.B)
	}
	return out
}

// deep is a copy of a message, to hold it against later.
func deep(m api.Msg) api.Msg {
	out := api.Msg{Mti: m.Mti}
	for _, v := range m.F {
		out.F = append(out.F, api.Val{No: v.No, B: bytes.Clone(v.B)})
	}
	return out
}

// refused: did Read answer this error, and nothing else?
func refused(t *testing.T, b []byte, want api.Errno) {
	t.Helper()
	if m, e := iso.Read(b); e != want || m.Mti != 0 || len(m.F) != 0 {
		t.Fatalf("Read(%x) = %s, %d, not %d", b, told(m), e, want)
	}
}

// P7.1

func TestTypeAndClassOfEachNumber(t *testing.T) {
	all := types()
	if len(all) != 240 {
		t.Fatalf("there are %d types", len(all))
	}
	for _, n := range numbers() {
		want := slices.Contains(all, n)
		class := 0
		if want {
			class = n / 100
		}
		if iso.Type(n) != want || iso.Class(n) != class {
			t.Fatalf("Type(%d) = %t, Class(%d) = %d", n, iso.Type(n), n, iso.Class(n))
		}
	}
}

func TestReplyOfEachNumber(t *testing.T) {
	all := types()
	for _, n := range numbers() {
		want, yes := 0, false
		if s := strconv.Itoa(n); slices.Contains(all, n) && (s[1] == '0' || s[1] == '2') {
			want, yes = n+10, true
		}
		if mti, is := iso.Reply(n); mti != want || is != yes {
			t.Fatalf("Reply(%d) = %d, %t", n, mti, is)
		}
	}
	for _, x := range []struct {
		mti, reply int
	}{{100, 110}, {120, 130}, {200, 210}, {420, 430}, {421, 431}, {800, 810}, {805, 815}, {825, 835}, {110, 0}, {130, 0}, {140, 0}, {845, 0}, {206, 0}, {906, 0}, {900, 0}, {0, 0}, {20, 0}, {-200, 0}} {
		if mti, is := iso.Reply(x.mti); mti != x.reply || is != (x.reply > 0) {
			t.Fatalf("Reply(%d) = %d, %t", x.mti, mti, is)
		}
	}
}

func TestRightMessages(t *testing.T) {
	for _, m := range rights() {
		if !iso.Right(m) {
			t.Fatalf("%s isn't right", told(m))
		}
	}
	if !iso.Right(api.Msg{Mti: 100, F: []api.Val{}}) {
		t.Fatal("a message without fields isn't right")
	}
	for _, m := range wrongMessages() {
		if iso.Right(m) {
			t.Fatalf("%s is right", told(m))
		}
	}
}

func TestRightAsksForEachNumberAndOrder(t *testing.T) {
	for _, no := range there() {
		for _, other := range there() {
			if m := msg(200, 5, no, other); iso.Right(m) != (no < other) {
				t.Fatalf("Right of the fields %d, %d: not %t", no, other, no < other)
			}
		}
	}
}

func TestSameAsksForAll(t *testing.T) {
	m := api.Msg{Mti: 200, F: []api.Val{{No: 2, B: []byte("4111")}, {No: 39, B: []byte("00")}}}
	for i, x := range []api.Msg{
		{}, {Mti: 200}, {Mti: 210, F: deep(m).F}, {Mti: 200, F: m.F[:1]}, {Mti: 200, F: m.F[1:]}, {Mti: 200, F: append(deep(m).F, api.Val{})}, {Mti: 200, F: append(deep(m).F, m.F[1])},
		{Mti: 200, F: []api.Val{m.F[1], m.F[0]}}, {Mti: 200, F: []api.Val{m.F[0], m.F[0]}},
		{Mti: 200, F: []api.Val{{No: 3, B: []byte("4111")}, m.F[1]}}, {Mti: 200, F: []api.Val{m.F[0], {No: 38, B: []byte("00")}}},
		{Mti: 200, F: []api.Val{{No: 2, B: []byte("4112")}, m.F[1]}}, {Mti: 200, F: []api.Val{{No: 2, B: []byte("411")}, m.F[1]}}, {Mti: 200, F: []api.Val{m.F[0], {No: 39, B: []byte("000")}}},
		{Mti: 200, F: []api.Val{m.F[0], {No: 39, B: []byte("01")}}}, {Mti: 200, F: []api.Val{{No: 2}, m.F[1]}}, {Mti: 200, F: []api.Val{m.F[0], {No: 39}}}, {Mti: -200, F: m.F}, {Mti: 200 + 1<<32, F: m.F},
	} {
		if iso.Same(m, x) || iso.Same(x, m) || !iso.Same(x, deep(x)) {
			t.Fatalf("Same, of the message %d: %s", i, told(x))
		}
	}
	if !iso.Same(m, deep(m)) || !iso.Same(m, m) || !iso.Same(api.Msg{}, api.Msg{F: []api.Val{}}) || !iso.Same(api.Msg{F: []api.Val{{No: 2}}}, api.Msg{F: []api.Val{{No: 2, B: []byte{}}}}) {
		t.Fatal("what is the same isn't")
	}
}

func TestSameOfAnyMessages(t *testing.T) {
	all := append(some(rights(), 20), some(wrongMessages(), 10)...)
	for _, a := range all {
		for _, b := range all {
			if iso.Same(a, deep(b)) != same(a, b) {
				t.Fatalf("Same of %s and %s: not %t", told(a), told(b), same(a, b))
			}
		}
	}
}

// P7.2

func TestWriteTellsTheBytes(t *testing.T) {
	for _, x := range []struct {
		m api.Msg
		b string
	}{
		{api.Msg{Mti: 800, F: []api.Val{{No: 70, B: []byte("301")}}}, "0800 8000000000000000 0400000000000000 0301"},
		{api.Msg{Mti: 200}, "0200 0000000000000000"},
		{api.Msg{Mti: 845, F: []api.Val{{No: 2, B: []byte("123")}}}, "0845 4000000000000000 030123"},
		{api.Msg{Mti: 200, F: []api.Val{{No: 2, B: []byte("4111")}, {No: 4, B: []byte("000000001234")}, {No: 39, B: []byte("00")}}}, "0200 5000000002000000 044111 000000001234 3030"},
		{api.Msg{Mti: 110, F: []api.Val{{No: 64, B: []byte("\x00\x01\x02\x03\x04\x05\x06\x07")}}}, "0110 0000000000000001 0001020304050607"},
		{api.Msg{Mti: 121, F: []api.Val{{No: 22, B: []byte("012")}, {No: 48, B: []byte("ab")}, {No: 128, B: []byte("12345678")}}}, "0121 8000040000010000 0000000000000001 0012 00026162 3132333435363738"},
	} {
		if b, e := iso.Write(x.m); !bytes.Equal(b, unhex(x.b)) || e != api.OK {
			t.Fatalf("Write(%s) = %x, %d", told(x.m), b, e)
		}
	}
	for _, m := range rights() {
		if b, e := iso.Write(m); !bytes.Equal(b, standing(m)) || e != api.OK {
			t.Fatalf("Write(%s) = %x, %d", told(m), b, e)
		}
	}
}

func TestWriteOfTheGreatestMessage(t *testing.T) {
	m := api.Msg{Mti: 845} // no bound of a frame counts here
	for _, no := range there() {
		f, _ := field.Of(no)
		m.F = append(m.F, api.Val{No: no, B: bytes.Repeat([]byte{'9'}, f.Len)})
	}
	b, e := iso.Write(m)
	if n, g := iso.Read(b); len(b) < 1400 || e != api.OK || g != api.OK || !same(n, m) {
		t.Fatalf("%d bytes, %d, read as %s, %d", len(b), e, told(n), g)
	}
}

func TestWriteRefuses(t *testing.T) {
	for _, m := range wrongMessages() {
		if b, e := iso.Write(m); len(b) != 0 || e != api.ErrArg {
			t.Fatalf("Write(%s) = %x, %d", told(m), b, e)
		}
	}
}

// P7.3

func TestReadTellsTheMessage(t *testing.T) {
	for _, m := range rights() {
		if n, e := iso.Read(standing(m)); !same(n, m) || e != api.OK {
			t.Fatalf("Read of %s = %s, %d", told(m), told(n), e)
		}
	}
}

func TestReadOfEachType(t *testing.T) {
	all := types()
	for x := range 1 << 16 {
		head := []byte{byte(x >> 8), byte(x)}
		mti, e := dig.Value(dig.Hex(head))
		m, g := iso.Read(append(bytes.Clone(head), make([]byte, 8)...))
		if e == api.OK && slices.Contains(all, mti) {
			if m.Mti != mti || len(m.F) != 0 || g != api.OK {
				t.Fatalf("Read of the type %x = %s, %d", head, told(m), g)
			}
			refused(t, head, api.ErrShort) // then it is the bits that are missing
			continue
		}
		for _, behind := range []string{"", "\x00", "\x80\x00\x00\x00\x00\x00\x00\x00", "\x00\x00\x00\x00\x00\x00\x00\x00\x00"} { // ahead of all that may be wrong there
			refused(t, append(bytes.Clone(head), behind...), api.ErrForm)
		}
	}
}

func TestReadOfBytesThatEndTooSoon(t *testing.T) {
	refused(t, nil, api.ErrShort)
	refused(t, []byte{}, api.ErrShort)
	for x := range 256 { // half a type, whatever that is
		refused(t, []byte{byte(x)}, api.ErrShort)
		refused(t, []byte{byte(x), 0x00, 0xff}[:1], api.ErrShort) // with room behind
	}
	for _, m := range some(rights(), 3) {
		b := standing(m)
		for end := range b {
			refused(t, b[:end], api.ErrShort)
		}
	}
}

func TestReadAnswersTheErrorOfTheBits(t *testing.T) {
	for _, x := range []struct {
		b    string
		want api.Errno
	}{
		{"00000000000000", api.ErrShort}, {"80000000000000", api.ErrShort}, {"08000000000000", api.ErrShort}, {"8000000000000000", api.ErrShort}, {"8000000000000000 04000000000000", api.ErrShort},
		{"8800000000000000 00", api.ErrShort}, // ahead of field 5, that there isn't
		{"8000000000000000 0000000000000000", api.ErrForm}, {"8000000000000000 8000000000000000", api.ErrForm}, {"c000000000000000 0000000000000000 0411", api.ErrForm}, {"8000000000000000 8400000000000000 0301", api.ErrForm},
		{"4000000000000000", api.ErrShort}, {"0000000000000000 00", api.ErrLong}, {"0000000000000000 8000000000000000", api.ErrLong},
	} {
		refused(t, unhex("0800"+x.b), x.want)
	}
	d := dice(3)
	counts := map[api.Errno]int{}
	for range 20000 {
		b := unhex("0800")
		for range d.below(30) {
			b = append(b, byte(d.below(256)))
		}
		if _, _, e := bitmap.Read(b, 2); e != api.OK {
			counts[e]++
			refused(t, b, e)
		}
	}
	if counts[api.ErrShort] < 1000 || counts[api.ErrForm] < 1000 {
		t.Fatalf("so many of each error: %v", counts)
	}
}

func TestReadOfAFieldThatThereIsNot(t *testing.T) {
	var behind [][]byte
	for _, s := range []string{"", "\x00", "\xff", "\x04\x41\x11", strings.Repeat("\x01", 40), strings.Repeat("\xff", 40)} { // ahead of what is wrong with values, or behind them
		behind = append(behind, []byte(s))
	}
	for no := 2; no <= 128; no++ {
		if no == 65 || slices.Contains(there(), no) {
			continue
		}
		for _, l := range [][]int{{no}, {2, no}, {no, 128}, {2, no, 128}, {no, 3}} {
			slices.Sort(l)
			bits, e := bitmap.Write(l)
			if e != api.OK {
				t.Fatalf("the bits of %v: %d", l, e)
			}
			for _, b := range behind {
				refused(t, slices.Concat([]byte{0x02, 0x00}, bits, b), api.ErrForm)
			}
		}
	}
	all := []byte("\x02\x00\xff\xff\xff\xff\xff\xff\xff\xff\x7f\xff\xff\xff\xff\xff\xff\xff")
	refused(t, all, api.ErrForm)
}

func TestReadAnswersTheErrorOfTheFirstField(t *testing.T) {
	for _, x := range []struct {
		b    string
		want api.Errno
	}{
		{"4000000000000000 20", api.ErrForm},                     // 2: more than 19 figures
		{"4000000000000000 00", api.ErrForm},                     // 2: none
		{"4000000000000000 0a", api.ErrForm},                     // 2: no figure tells how many
		{"4000000000000000 04", api.ErrShort},                    // 2: no figures
		{"4000000000000000 0441", api.ErrShort},                  // 2: too few
		{"4000000000000000 04411a", api.ErrForm},                 // 2: a half that is none
		{"4000000000000000 031123", api.ErrForm},                 // 2: a half ahead that isn't 0
		{"5000000000000000 04411a", api.ErrForm},                 // 2 ahead of 4, that is missing
		{"5000000000000000 044111 00", api.ErrShort},             // 4: too few
		{"5000000000000000 044111 0000000012f4", api.ErrForm},    // 4: a half that is none
		{"5000000000000000 044111 0000000012f4 00", api.ErrForm}, // ahead of ErrLong
		{"5000000000000000 0441f1 000000", api.ErrForm},          // 2 ahead of 4
		{"5000000000000000 044111 000000001234 00", api.ErrLong},
		{"5000000000000000 044111 000000001234 000000001234", api.ErrLong},
		{"0000000002000000 301f", api.ErrForm}, // 39: a sign that is none
		{"0000000002000000 307f", api.ErrForm}, // 39: another one
		{"0000000002000000 30", api.ErrShort},  // 39: too few
		{"0000000000010000 0401", api.ErrForm}, // 48: more than 400 signs
		{"0000000000010000 0000", api.ErrForm}, // 48: none
		{"0000000000010000 1001", api.ErrForm}, // 48: a half ahead that isn't 0
		{"0000000000010000 00", api.ErrShort},  // 48: half of how many there are
		{"0000000000010000 000261", api.ErrShort},
		{"0000000000000001 01020304050607", api.ErrShort}, // 64: too few
		{"8000000000000000 0400000000000000 1301", api.ErrForm},
		{"8000000000000000 0400000000000000 030101", api.ErrLong},
	} {
		refused(t, unhex("0200"+x.b), x.want)
	}
}

// firstFault is the error of the first one of the fields from a place on that can't be read, or the place behind the last one.
func firstFault(b []byte, at int, nos []int) (int, api.Errno) {
	for _, no := range nos {
		_, next, e := field.Read(no, b, at)
		if e != api.OK {
			return 0, e
		}
		at = next
	}
	return at, api.OK
}

func TestReadOfSpoiledMessages(t *testing.T) {
	d := dice(11)
	all := lists()
	counts := map[api.Errno]int{}
	for range 40000 {
		l := all[d.below(len(all))]
		b := standing(msg(200, d.below(1000), l...))
		bits, _ := bitmap.Write(l)
		head := 2 + len(bits)
		for range d.below(3) {
			if head < len(b) {
				b[head+d.below(len(b)-head)] = byte(d.below(256))
			}
		}
		if d.below(4) == 0 {
			b = b[:head+d.below(len(b)-head+1)]
		}
		if d.below(4) == 0 {
			b = append(b, byte(d.below(256)))
		}
		at, want := firstFault(b, head, l)
		if want == api.OK && at < len(b) {
			want = api.ErrLong
		}
		counts[want]++
		if want != api.OK {
			refused(t, b, want)
			continue
		}
		n, e := iso.Read(b)
		if again, g := iso.Write(n); e != api.OK || g != api.OK || !bytes.Equal(again, b) || !iso.Right(n) {
			t.Fatalf("Read(%x) = %s, %d, written again as %x, %d", b, told(n), e, again, g)
		}
	}
	for _, e := range []api.Errno{api.OK, api.ErrShort, api.ErrForm, api.ErrLong} {
		if counts[e] < 500 {
			t.Fatalf("so many of each error: %v", counts)
		}
	}
}

// P7.4

func TestGetTellsTheValue(t *testing.T) {
	for _, m := range rights() {
		has := map[int]string{}
		for _, v := range m.F {
			has[v.No] = string(v.B)
		}
		for _, no := range append(there(), noFields()...) {
			want, had := has[no]
			if v, is := iso.Get(m, no); string(v) != want || is != had {
				t.Fatalf("Get(%s, %d) = %x, %t", told(m), no, v, is)
			}
		}
	}
}

// put is a message with a field's value, by the document's words.
func put(m api.Msg, no int, v []byte) api.Msg {
	out := api.Msg{Mti: m.Mti, F: []api.Val{{No: no, B: v}}}
	for _, x := range m.F {
		if x.No != no {
			out.F = append(out.F, x)
		}
	}
	slices.SortFunc(out.F, func(v, w api.Val) int { return v.No - w.No })
	return out
}

func TestSetPutsTheValueInItsPlace(t *testing.T) {
	for i, m := range rights() {
		for _, no := range there() {
			for _, v := range [][]byte{value(no, i), value(no, 3*i+1)} {
				want := put(m, no, v)
				n, e := iso.Set(m, no, v)
				if !same(n, want) || e != api.OK || !iso.Right(n) {
					t.Fatalf("Set(%s, %d, %x) = %s, %d", told(m), no, v, told(n), e)
				}
			}
		}
	}
}

func TestSetRefuses(t *testing.T) {
	for _, m := range some(rights(), 17) {
		for _, no := range noFields() {
			for _, v := range []string{"", "1", "12345678", "\x00"} { // also of what is no value of any field
				if n, e := iso.Set(m, no, []byte(v)); !same(n, m) || e != api.ErrNone {
					t.Fatalf("Set(%s, %d, %x) = %s, %d", told(m), no, v, told(n), e)
				}
			}
		}
		for _, no := range there() {
			for _, v := range wrongs(no) {
				if n, e := iso.Set(m, no, v); !same(n, m) || e != api.ErrArg {
					t.Fatalf("Set(%s, %d, %x) = %s, %d", told(m), no, v, told(n), e)
				}
			}
		}
	}
}

func TestDropTakesOneFieldAway(t *testing.T) {
	for _, m := range some(rights(), 3) {
		for _, no := range append(there(), noFields()...) {
			want := api.Msg{Mti: m.Mti}
			for _, v := range m.F {
				if v.No != no {
					want.F = append(want.F, v)
				}
			}
			if n := iso.Drop(m, no); !same(n, want) || !iso.Right(n) {
				t.Fatalf("Drop(%s, %d) = %s", told(m), no, told(n))
			}
		}
	}
}

// P7.5

func TestWhatIsWrittenIsRead(t *testing.T) {
	seen := map[string]string{}
	for _, m := range rights() {
		b, e := iso.Write(m)
		n, g := iso.Read(b)
		if e != api.OK || g != api.OK || !same(n, m) || !iso.Same(n, m) {
			t.Fatalf("%s, written and read: %d, %s, %d", told(m), e, told(n), g)
		}
		if other, had := seen[string(b)]; had && other != told(m) {
			t.Fatalf("%s and %s have the same bytes", other, told(m))
		}
		seen[string(b)] = told(m)
		refused(t, append(bytes.Clone(b), 0x00), api.ErrLong)
		refused(t, append(bytes.Clone(b), b...), api.ErrLong)
	}
}

func TestWhatIsReadIsWritten(t *testing.T) {
	d := dice(5)
	read := 0
	for range 60000 {
		b := []byte{byte(d.below(9)), byte(d.below(5)<<4 | d.below(6))}
		bits := make([]byte, 8)
		for range d.below(4) {
			at, bit := bitmap.Place(there()[d.below(26)])
			bits[at] |= bit
		}
		b = append(b, bits...)
		for range d.below(24) {
			b = append(b, byte(d.below(10)<<4|d.below(10)))
		}
		m, e := iso.Read(b)
		if e != api.OK {
			continue
		}
		read++
		if again, g := iso.Write(m); !bytes.Equal(again, b) || g != api.OK {
			t.Fatalf("%x, read as %s, is written again as %x, %d", b, told(m), again, g)
		}
	}
	if read < 1000 {
		t.Fatalf("no more than %d rows of bytes were messages", read)
	}
}

func TestWhatIsSetIsGot(t *testing.T) {
	for i, m := range rights() {
		for _, no := range there() {
			v := value(no, 5*i+2)
			n, _ := iso.Set(m, no, v)
			got, is := iso.Get(n, no)
			if !bytes.Equal(got, v) || !is {
				t.Fatalf("Set(%s, %d, %x), got as %x, %t", told(m), no, v, got, is)
			}
			for _, other := range there() {
				was, had := iso.Get(m, other)
				now, has := iso.Get(n, other)
				if other != no && (had != has || !bytes.Equal(was, now)) {
					t.Fatalf("field %d of %s: %x, %t, behind the setting of %d %x, %t", other, told(m), was, had, no, now, has)
				}
			}
			if _, is := iso.Get(iso.Drop(n, no), no); is || !same(iso.Drop(n, no), iso.Drop(m, no)) {
				t.Fatalf("field %d of %s, dropped", no, told(n))
			}
		}
	}
}

func TestAMessageIsBuiltInAnyOrder(t *testing.T) {
	d := dice(9)
	for range 300 {
		left := there()
		m := api.Msg{Mti: 200}
		for len(left) > 0 {
			i := d.below(len(left))
			n, e := iso.Set(m, left[i], value(left[i], left[i]))
			if e != api.OK {
				t.Fatalf("Set(%s, %d): %d", told(m), left[i], e)
			}
			m, left = n, slices.Delete(left, i, i+1)
		}
		if !same(m, msg(200, 0, there()...)) {
			t.Fatalf("built as %s", told(m))
		}
	}
}

// R1, R3 and R4

func TestCallsOfAnyMessageEnd(t *testing.T) {
	for _, m := range wrongMessages() {
		was := told(m)
		for _, no := range []int{math.MinInt, -1, 0, 2, 11, 65, 128, math.MaxInt} {
			iso.Get(m, no)
			iso.Set(m, no, []byte("1"))
			iso.Drop(m, no)
		}
		if told(m) != was {
			t.Fatalf("%s changed to %s", was, told(m))
		}
	}
}

// roomy is a message whose lists have room behind them, in which a call could write unseen.
func roomy(m api.Msg) api.Msg {
	out := deep(m)
	out.F = append(out.F, api.Val{No: 77}, api.Val{No: 78}, api.Val{No: 79})[:len(m.F)]
	for i, v := range out.F {
		out.F[i].B = append(v.B, 0xee, 0xee, 0xee)[:len(v.B)]
	}
	return out
}

// whole is a roomy message with what stands behind its lists.
func whole(m api.Msg) string {
	out := deep(m)
	for i, v := range m.F {
		out.F[i].B = v.B[:len(v.B)+3]
	}
	out.F = append(out.F, m.F[:len(m.F)+3][len(m.F):]...)
	return told(out)
}

func TestWhatIsHandedInStays(t *testing.T) {
	for _, m := range append(some(ofLists(), 8), some(wrongMessages(), 7)...) {
		m = roomy(m)
		was := whole(m)
		iso.Right(m)
		iso.Write(m)
		iso.Same(m, m)
		for _, no := range []int{2, 5, 11, 39, 48, 64, 70, 128} {
			v := append(value(no, 4), 0xee, 0xee)
			set := bytes.Clone(v)
			iso.Get(m, no)
			iso.Drop(m, no)
			iso.Set(m, no, v[:len(v)-2])
			iso.Set(m, no, v)
			if whole(m) != was || !bytes.Equal(v, set) {
				t.Fatalf("%s changed to %s, and %x to %x", was, whole(m), set, v)
			}
		}
		if !iso.Right(m) {
			continue
		}
		b := append(standing(m), 0xee, 0xee, 0xee)
		kept := bytes.Clone(b)
		for end := range len(b) {
			iso.Read(b[:end])
		}
		if !bytes.Equal(b, kept) {
			t.Fatalf("%x changed to %x", kept, b)
		}
	}
}

// wipe changes all that a message holds, and what may stand behind it.
func wipe(m api.Msg) {
	for _, v := range m.F[:cap(m.F)] {
		clear(v.B[:cap(v.B)])
	}
	clear(m.F[:cap(m.F)])
}

func TestAnswersAreApart(t *testing.T) {
	for _, l := range [][]int{{2}, {2, 11}, {11, 39, 70}, there()} {
		want := msg(200, 0, l...)
		m := deep(want)
		b, _ := iso.Write(m)
		wipe(m)
		if !bytes.Equal(b, standing(want)) {
			t.Fatalf("the bytes of %s changed with the message: %x", told(want), b)
		}
		m, _ = iso.Read(b)
		clear(b)
		if !same(m, want) {
			t.Fatalf("%s changed with its bytes to %s", told(want), told(m))
		}
		v, _ := iso.Get(m, l[0])
		clear(v)
		if !same(m, want) {
			t.Fatalf("%s changed with what was got to %s", told(want), told(m))
		}
		for _, no := range []int{l[0], 3, 128} {
			v, from := value(no, 8), deep(want)
			set, _ := iso.Set(from, no, v)
			dropped := iso.Drop(from, no)
			was, less := told(set), told(dropped)
			clear(v)
			wipe(from)
			if told(set) != was || told(dropped) != less {
				t.Fatalf("behind Set and Drop of %d: %s changed to %s, %s to %s", no, was, told(set), less, told(dropped))
			}
			wipe(set)
			if told(dropped) != less {
				t.Fatalf("behind Drop of %d: %s changed to %s", no, less, told(dropped))
			}
		}
	}
}

func TestAnswersHangOnArgumentsAlone(t *testing.T) {
	for _, m := range some(rights(), 8) {
		b, e := iso.Write(m)
		iso.Write(msg(100, 3, 2, 128))
		iso.Read(unhex("0100 8000000000000000"))
		again, g := iso.Write(m)
		if !bytes.Equal(again, b) || e != g {
			t.Fatalf("Write(%s) = %x, %d, and then %x, %d", told(m), b, e, again, g)
		}
		n, _ := iso.Read(b)
		iso.Read(b[:len(b)-1])
		if o, e := iso.Read(b); !same(n, o) || e != api.OK {
			t.Fatalf("Read(%x) = %s, and then %s, %d", b, told(n), told(o), e)
		}
	}
}
