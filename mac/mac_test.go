package mac_test

import (
	"bytes"
	"crypto/hmac"
	"crypto/sha256"
	"encoding/hex"
	"strings"
	"testing"
	"time"

	"yett/api"
	"yett/mac"
	"yett/sha"
)

// several are n bytes, none of which is 00, and no two neighbours of which are the same.
func several(n int) []byte {
	out := make([]byte, n)
	for i := range out {
		out[i] = byte(37*i+i>>8) | 1
	}
	return out
}

// standard is the tag as Go's own library has it.
func standard(key, b []byte) []byte {
	h := hmac.New(sha256.New, key)
	h.Write(b)
	return h.Sum(nil)
}

// xored are bytes, each one xor by.
func xored(b []byte, by byte) []byte {
	out := bytes.Clone(b)
	for i := range out {
		out[i] ^= by
	}
	return out
}

// told is what is told of a label and parts, by the chapter's words.
func told(label string, parts ...[]byte) []byte {
	out := []byte{byte(len(label))}
	out = append(out, label...)
	for _, p := range parts {
		out = append(out, byte(len(p)/256), byte(len(p)%256))
		out = append(out, p...)
	}
	return out
}

// rows are n rows without a byte.
func rows(n int) [][]byte { return make([][]byte, n) }

// with puts p into a row of n rows, at the place at.
func with(n, at int, p []byte) [][]byte {
	out := rows(n)
	out[at] = p
	return out
}

// P3.1

func TestBlockIsTheKeyOrItsDigest(t *testing.T) {
	for n := range 300 {
		key := several(n)
		want := make([]byte, 64)
		if n <= 64 {
			copy(want, key)
		} else {
			d := sha256.Sum256(key)
			copy(want, d[:])
		}
		if b := mac.Block(key); !bytes.Equal(b, want) {
			t.Errorf("Block of %d bytes = %x", n, b)
		}
	}
	if b := mac.Block([]byte{1, 2}); hex.EncodeToString(b) != "0102"+strings.Repeat("00", 62) {
		t.Errorf("Block of 1, 2 = %x", b)
	}
	if b := mac.Block(nil); !bytes.Equal(b, make([]byte, 64)) {
		t.Errorf("Block of nothing = %x", b)
	}
}

func TestTagIsOfBothTurnedBlocks(t *testing.T) {
	for _, n := range []int{0, 1, 2, 16, 31, 32, 33, 55, 56, 63, 64, 65, 66, 127, 128, 129, 1000} {
		key := several(n)
		block := mac.Block(key)
		for size := range 200 {
			b := several(size + 3)[3:]
			in := sha.Of(append(xored(block, 0x36), b...))
			want := sha.Of(append(xored(block, 0x5c), in...))
			if x := mac.Tag(key, b); !bytes.Equal(x, want) || !bytes.Equal(x, standard(key, b)) || len(x) != api.Digest {
				t.Fatalf("Tag of %d bytes under %d: %x", size, n, x)
			}
		}
	}
	if x := mac.Tag(nil, nil); hex.EncodeToString(x) != "b613679a0814d9ec772f95d778c35fc5ff1697c493715653c6c712144292c5ad" {
		t.Errorf("Tag of nothing under nothing: %x", x)
	}
}

func TestTagHangsOnEachByte(t *testing.T) {
	for _, n := range []int{1, 32, 64, 65, 100} {
		key, b := several(n), several(n)
		want := mac.Tag(key, b)
		for i := range n {
			other := bytes.Clone(key)
			other[i] ^= 0x80
			if bytes.Equal(mac.Tag(other, b), want) {
				t.Errorf("byte %d of a key of %d makes no difference", i, n)
			}
			if bytes.Equal(mac.Tag(key, other), want) {
				t.Errorf("byte %d of %d bytes makes no difference", i, n)
			}
		}
		if bytes.Equal(mac.Tag(key, append(b, 0)), want) || bytes.Equal(mac.Tag(key, b[:n-1]), want) {
			t.Errorf("how many bytes of %d there are makes no difference", n)
		}
	}
}

// P3.2

func TestDeriveIsTheTagOfWhatIsTold(t *testing.T) {
	key := bytes.Repeat([]byte{11}, 20)
	for _, x := range []struct {
		label string
		parts [][]byte
	}{
		{"", nil}, {"", rows(0)}, {"", rows(1)}, {"", rows(16)}, {"ab", nil}, {"ab", [][]byte{{}}}, {"ab", [][]byte{{1, 2, 3}, nil}}, {"ab", [][]byte{nil, {1, 2, 3}}},
		{"session", [][]byte{several(8), several(8), {7}}}, {"\x00", [][]byte{{0}, {0, 0}}}, {"\u00e9\u4e16", [][]byte{several(5)}}, {"\xff\xfe", [][]byte{several(5)}}, // signs aren't counted, but bytes
		{strings.Repeat("l", 254), nil}, {strings.Repeat("l", 255), nil}, {strings.Repeat("l", 255), with(16, 15, []byte{1})}, {strings.Repeat("\u00e9", 127), nil},
		{"a", [][]byte{several(255)}}, {"a", [][]byte{several(256)}}, {"a", [][]byte{several(257), several(65534)}}, {"a", [][]byte{several(65535)}}, {"a", with(16, 15, several(65535))},
		{"all", [][]byte{several(0), several(1), several(2), several(3), several(4), several(5), several(6), several(7), several(8), several(9), several(10), several(11), several(12), several(13), several(14), several(15)}},
	} {
		for _, key := range [][]byte{nil, key, several(64), several(65)} {
			d, e := mac.Derive(key, x.label, x.parts...)
			if !bytes.Equal(d, standard(key, told(x.label, x.parts...))) || e != api.OK {
				t.Errorf("Derive under %d bytes, of %q and %d parts = %x, %d", len(key), x.label, len(x.parts), d, e)
			}
		}
	}
	if d, e := mac.Derive(key, "ab", []byte{1, 2, 3}, nil); !bytes.Equal(d, mac.Tag(key, []byte{2, 'a', 'b', 0, 3, 1, 2, 3, 0, 0})) || e != api.OK {
		t.Errorf("Derive of ab, 1 2 3, and nothing = %x, %d", d, e)
	}
	greatest := rows(16)
	for i := range greatest {
		greatest[i] = several(65535)
	}
	label := strings.Repeat("\xff", 255)
	if d, e := mac.Derive(key, label, greatest...); !bytes.Equal(d, standard(key, told(label, greatest...))) || e != api.OK {
		t.Errorf("Derive of the most there may be = %x, %d", d, e)
	}
}

func TestDeriveRefusesTooMuch(t *testing.T) {
	const long = 65536
	label := strings.Repeat("l", 256)
	for _, x := range []struct {
		label string
		parts [][]byte
	}{
		{label, nil}, {label, rows(1)}, {strings.Repeat("l", 257), nil}, {strings.Repeat("l", 512), nil}, {strings.Repeat("l", 65536), nil}, {strings.Repeat("\u00e9", 128), nil},
		{"", rows(17)}, {"ab", rows(18)}, {"ab", rows(256)}, {"ab", rows(272)}, {"ab", rows(65536)},
		{"", [][]byte{several(long)}}, {"ab", with(2, 1, several(long))}, {"ab", with(16, 0, several(long))}, {"ab", with(16, 15, several(long))}, {"ab", [][]byte{several(long + 1)}}, {"ab", [][]byte{several(2 * long)}},
		{label, with(17, 16, several(long))}, {label, rows(17)}, {"", with(17, 0, several(long))},
	} {
		if d, e := mac.Derive(several(32), x.label, x.parts...); len(d) != 0 || e != api.ErrArg {
			t.Errorf("Derive of a label of %d bytes and %d parts = %x, %d", len(x.label), len(x.parts), d, e)
		}
	}
}

// P3.3

func TestKcvIsAheadInTheTagOfNoughts(t *testing.T) {
	for n := range 130 {
		key := several(n)
		if x := mac.Kcv(key); !bytes.Equal(x, standard(key, make([]byte, 8))[:3]) {
			t.Errorf("Kcv of %d bytes = %x", n, x)
		}
	}
	if x := mac.Kcv(nil); len(x) != 3 || !bytes.Equal(x, mac.Tag(nil, make([]byte, 8))[:3]) {
		t.Errorf("Kcv of nothing = %x", x)
	}
}

func TestSameAsksForAllBytes(t *testing.T) {
	for n := range 130 {
		a, b := several(n), several(n)
		if !mac.Same(a, b) || !mac.Same(a, a) {
			t.Errorf("%d bytes aren't the same", n)
		}
		for i := range n {
			for bit := range 8 { // the highest one as well as the lowest
				b[i] ^= 1 << bit
				if mac.Same(a, b) || mac.Same(b, a) {
					t.Errorf("the same, but for bit %d of byte %d of %d", bit, i, n)
				}
				b[i] ^= 1 << bit
			}
		}
		if n > 0 && (mac.Same(a, b[:n-1]) || mac.Same(b[:n-1], a)) || mac.Same(a, append(b, 0)) || mac.Same(append(b, 0), a) {
			t.Errorf("%d bytes are the same as one more or less", n)
		}
	}
}

func TestSameOfPartingsThatMakeUpForEachOther(t *testing.T) {
	for _, x := range [][2]string{{"ab", "ba"}, {"\x01\x01", "\x02\x02"}, {"\x00\xff", "\xff\x00"}, {"\x00\x00", "\x80\x80"}, {"\x00\x00", "\xff\x01"}} { // their sums or xors are the same
		if mac.Same([]byte(x[0]), []byte(x[1])) {
			t.Errorf("%q is the same as %q", x[0], x[1])
		}
	}
	for _, x := range []struct {
		a, b []byte
		same bool
	}{{nil, nil, true}, {nil, []byte{}, true}, {[]byte{}, nil, true}, {nil, []byte{0}, false}, {[]byte{0}, nil, false}} {
		if mac.Same(x.a, x.b) != x.same {
			t.Errorf("Same(%v, %v) isn't %t", x.a, x.b, x.same)
		}
	}
}

// quickest is the least time that Same took of some runs: whatever else the machine does makes a run slower only.
func quickest(a, b []byte) time.Duration {
	least := time.Duration(1<<63 - 1)
	for range 7 {
		start := time.Now()
		mac.Same(a, b)
		least = min(least, time.Since(start))
	}
	return least
}

// What ended where the rows part would be many thousand times as quick, so a wide margin is enough.
func TestSameLooksAtEachByteWhereverTheyPart(t *testing.T) {
	const size, margin = 1 << 22, 10
	a := bytes.Repeat([]byte{7}, size)
	whole := quickest(a, bytes.Clone(a))
	for _, at := range []int{0, size - 1} {
		b := bytes.Clone(a)
		b[at] = 8
		if parted := quickest(a, b); parted*margin < whole {
			t.Errorf("parted at %d it took %d ns, else %d", at, parted, whole)
		}
	}
}

// P3.4

func TestNoughtsBehindAKeyMakeNoDifference(t *testing.T) {
	b := []byte("what is tagged")
	for n := range 64 {
		key := several(n)
		more := append(bytes.Clone(key), 0)
		if !bytes.Equal(mac.Tag(key, b), mac.Tag(more, b)) || !bytes.Equal(mac.Kcv(key), mac.Kcv(more)) {
			t.Errorf("a byte 00 behind %d bytes makes a difference", n)
		}
		one, _ := mac.Derive(key, "ab", b)
		if other, _ := mac.Derive(more, "ab", b); !bytes.Equal(one, other) {
			t.Errorf("a byte 00 behind %d bytes derives another key", n)
		}
	}
	if !bytes.Equal(mac.Tag(nil, b), mac.Tag(make([]byte, 64), b)) {
		t.Error("64 bytes 00 aren't as none")
	}
	for n := 64; n < 70; n++ { // of which one has more than 64 bytes, or both
		key := several(n)
		if bytes.Equal(mac.Tag(key, b), mac.Tag(append(bytes.Clone(key), 0), b)) {
			t.Errorf("a byte 00 behind %d bytes makes no difference", n)
		}
	}
}

func TestOtherLabelsAndPartsDeriveOtherKeys(t *testing.T) {
	key := several(32)
	seen := map[string]int{}
	for i, x := range []struct {
		label string
		parts []string
	}{
		{"", nil}, {"", []string{""}}, {"", []string{"", ""}}, {"\x00", nil}, {"\x00\x00", nil}, {"", []string{"\x00"}}, {"", []string{"\x00\x00"}},
		{"a", nil}, {"ab", nil}, {"ba", nil}, {"a", []string{"b"}}, {"", []string{"ab"}}, {"", []string{"a", "b"}}, {"", []string{"b", "a"}}, {"ab", []string{""}}, {"a", []string{"b", ""}}, {"a", []string{"", "b"}},
		{"ab", []string{"c"}}, {"a", []string{"bc"}}, {"", []string{"abc"}}, {"abc", nil}, {"a", []string{"b", "c"}}, {"", []string{"a", "bc"}}, {"", []string{"ab", "c"}}, {"", []string{"a", "b", "c"}},
		{"a\x00\x01b", nil}, {"a\x00", []string{"\x01b"}}, {"a", []string{"b\x00\x01c"}}, {"", []string{"a\x00\x01b"}}, {"\x00\x01a", nil},
		{"a", []string{strings.Repeat("p", 256)}}, {"a", []string{"", strings.Repeat("p", 254)}}, {"a", []string{strings.Repeat("p", 255), ""}}, {"a", []string{strings.Repeat("p", 65535)}},
	} {
		var parts [][]byte
		for _, p := range x.parts {
			parts = append(parts, []byte(p))
		}
		d, e := mac.Derive(key, x.label, parts...)
		if e != api.OK || len(d) != api.Digest {
			t.Fatalf("%d: %x, %d", i, d, e)
		}
		if j, ok := seen[string(d)]; ok {
			t.Errorf("%d and %d derive the same key", j, i)
		}
		seen[string(d)] = i
	}
}

func TestTagsOfTheStandard(t *testing.T) {
	rising := make([]byte, 25)
	for i := range rising {
		rising[i] = byte(i + 1)
	}
	long := bytes.Repeat([]byte{0xaa}, 131)
	for want, x := range map[string]struct{ key, b []byte }{ // RFC 4231
		"b0344c61d8db38535ca8afceaf0bf12b881dc200c9833da726e9376c2e32cff7": {bytes.Repeat([]byte{0x0b}, 20), []byte("Hi There")},
		"5bdcc146bf60754e6a042426089575c75a003f089d2739839dec58b964ec3843": {[]byte("Jefe"), []byte("what do ya want for nothing?")},
		"773ea91e36800e46854db8ebd09181a72959098b3ef8c122d9635514ced565fe": {bytes.Repeat([]byte{0xaa}, 20), bytes.Repeat([]byte{0xdd}, 50)},
		"82558a389a443c0ea4cc819899f2083a85f0faa3e578f8077a2e3ff46729665b": {rising, bytes.Repeat([]byte{0xcd}, 50)},
		"60e431591ee0b67f0d8a26aacbf5b77f8e0bc6213728c5140546040f0ee37f54": {long, []byte("Test Using Larger Than Block-Size Key - Hash Key First")},
		"9b09ffa71b942fcb27635fbcd5b0e944bfdc63644f0713938a7f51535c3a35e2": {long, []byte("This is a test using a larger than block-size key and a larger than block-size data. The key needs to be hashed before being used by the HMAC algorithm.")},
	} {
		if got := hex.EncodeToString(mac.Tag(x.key, x.b)); got != want {
			t.Errorf("Tag of %q: %s", x.b, got)
		}
	}
}

// R3 and R4

func TestWhatIsHandedInIsNotWrittenInto(t *testing.T) {
	room := bytes.Repeat([]byte{0xee}, 300) // rows are pieces of it, with room behind
	kept := bytes.Clone(room)
	for _, n := range []int{0, 2, 32, 63, 64, 65, 131} {
		key, b := room[:n:300], room[100:100+n:300]
		parts := [][]byte{room[:n:300], room[150 : 150+n : 300], room[:0:300]}
		behind := parts[:2:3]
		mac.Block(key)
		mac.Tag(key, b)
		mac.Derive(key, "ab", behind...)
		mac.Derive(key, "ab", append(rows(16), b)...)
		mac.Kcv(key)
		mac.Same(key, b)
		if !bytes.Equal(room, kept) || len(parts[0]) != n || len(parts[1]) != n || len(parts[2]) != 0 {
			t.Fatalf("with %d bytes: %x", n, room)
		}
	}
}

func TestAnswersAreApart(t *testing.T) {
	key, b := several(64), several(40)
	calls := map[string]func() []byte{
		"Block":     func() []byte { return mac.Block(key) },
		"Tag":       func() []byte { return mac.Tag(key, b) },
		"Derive":    func() []byte { d, _ := mac.Derive(key, "ab", b, key); return d },
		"Derive of": func() []byte { d, _ := mac.Derive(key, ""); return d },
		"Kcv":       func() []byte { return mac.Kcv(key) },
	}
	for name, call := range calls {
		first := call()
		want := bytes.Clone(first)
		clear(first)
		_ = append(first, 1, 2, 3)
		if again := call(); !bytes.Equal(again, want) || !bytes.Equal(key, several(64)) || !bytes.Equal(b, several(40)) {
			t.Errorf("%s answers %x behind %x", name, again, want)
		}
	}
	answers := map[string][]byte{}
	kept := map[string][]byte{}
	for name, call := range calls {
		answers[name] = call()
		kept[name] = bytes.Clone(answers[name])
	}
	clear(key)
	clear(b)
	for name, x := range answers {
		if !bytes.Equal(x, kept[name]) {
			t.Errorf("%s changed with what was handed in: %x", name, x)
		}
	}
}
