package sha_test

import (
	"bytes"
	"crypto/sha256"
	"encoding/hex"
	"math"
	"math/big"
	"strings"
	"testing"

	"yett/api"
	"yett/sha"
)

const most = 1 << 50 // bytes that may come

// primes are the first n primes.
func primes(n int) []int64 {
	var out []int64
	for k := int64(2); len(out) < n; k++ {
		if big.NewInt(k).ProbablyPrime(0) {
			out = append(out, k)
		}
	}
	return out
}

// behindPoint is the first 32 bits behind the point of the k-th root of p: the greatest x with x^k at most p shifted left by 32 k, without what is ahead of the point.
func behindPoint(p, k int64) uint32 {
	bound := new(big.Int).Lsh(big.NewInt(p), uint(32*k))
	low, high := new(big.Int), new(big.Int).Lsh(big.NewInt(p), 32)
	for low.Cmp(high) < 0 {
		mid := new(big.Int).Add(low, high)
		mid.Add(mid, big.NewInt(1)).Rsh(mid, 1)
		if new(big.Int).Exp(mid, big.NewInt(k), nil).Cmp(bound) <= 0 {
			low = mid
		} else {
			high = mid.Sub(mid, big.NewInt(1))
		}
	}
	return uint32(new(big.Int).And(low, big.NewInt(math.MaxUint32)).Uint64())
}

// several are n bytes, no two neighbours of which are the same.
func several(n int) []byte {
	out := make([]byte, n)
	for i := range out {
		out[i] = byte(i*i + 7*i + i>>8)
	}
	return out
}

// same: are two digests under way the same?
func same(x, y api.Hash) bool {
	return x.H == y.H && x.N == y.N && bytes.Equal(x.Rest, y.Rest)
}

// standard is the digest as Go's own library has it.
func standard(b []byte) []byte {
	out := sha256.Sum256(b)
	return out[:]
}

// told are words as bytes.
func told(w [8]uint32) []byte {
	var out []byte
	for _, x := range w {
		out = append(out, byte(x>>24), byte(x>>16), byte(x>>8), byte(x))
	}
	return out
}

// pieces puts b into a digest, size bytes at a time.
func pieces(b []byte, size int) api.Hash {
	h := sha.New()
	for len(b) > size {
		h = sha.Put(h, b[:size])
		b = b[size:]
	}
	return sha.Put(h, b)
}

// wrong are digests under way that aren't right.
func wrong() []api.Hash {
	return []api.Hash{
		{N: -1}, {N: -64}, {N: math.MinInt}, {N: -1, Rest: make([]byte, 63)}, {N: -63, Rest: []byte{1}},
		{N: most + 1}, {N: most + 64}, {N: most + 1, Rest: []byte{1}}, {N: math.MaxInt}, {N: math.MaxInt, Rest: make([]byte, 63)},
		{N: 1}, {N: 63}, {Rest: []byte{1}}, {N: 64, Rest: make([]byte, 64)}, {Rest: make([]byte, 64)}, {N: 70, Rest: make([]byte, 5)}, {N: 70, Rest: make([]byte, 7)}, {N: 70, Rest: make([]byte, 70)},
		{N: most, Rest: []byte{1}}, {N: most - 1}, {N: 3, Rest: make([]byte, 1000)},
	}
}

// P2.1

func TestNewIsOfNothing(t *testing.T) {
	h := sha.New()
	if h.N != 0 || len(h.Rest) != 0 || !sha.Right(h) {
		t.Error(h)
	}
	want := [8]uint32{0x6a09e667, 0xbb67ae85, 0x3c6ef372, 0xa54ff53a, 0x510e527f, 0x9b05688c, 0x1f83d9ab, 0x5be0cd19}
	if h.H != want {
		t.Errorf("%08x", h.H)
	}
	for i, p := range primes(8) {
		if h.H[i] != behindPoint(p, 2) {
			t.Errorf("word %d is %08x", i, h.H[i])
		}
	}
}

func TestRightAsksForTheCountAndTheRest(t *testing.T) {
	for n := range 200 {
		for rest := range 130 {
			if got := sha.Right(api.Hash{N: n, Rest: make([]byte, rest)}); got != (rest == n%64) {
				t.Errorf("Right of %d bytes and %d left = %t", n, rest, got)
			}
		}
	}
	for _, h := range []api.Hash{{}, {N: most}, {N: most, Rest: []byte{}}, {N: most - 1, Rest: make([]byte, 63)}, {N: most - 64}, {H: [8]uint32{1, 2, 3}, N: 1 << 40}} {
		if !sha.Right(h) {
			t.Errorf("%d bytes and %d left aren't right", h.N, len(h.Rest))
		}
	}
	for _, h := range wrong() {
		if sha.Right(h) {
			t.Errorf("%d bytes and %d left are right", h.N, len(h.Rest))
		}
	}
}

func TestKeysAreOfTheCubeRoots(t *testing.T) {
	for i, p := range primes(64) {
		if x := sha.Key(i); x != behindPoint(p, 3) {
			t.Errorf("Key(%d) = %08x", i, x)
		}
	}
	if sha.Key(0) != 0x428a2f98 || sha.Key(63) != 0xc67178f2 {
		t.Errorf("%08x, %08x", sha.Key(0), sha.Key(63))
	}
	for _, i := range []int{-1, 64, 65, -64, 1 << 32, math.MinInt, math.MaxInt} {
		if x := sha.Key(i); x != 0 {
			t.Errorf("Key(%d) = %08x", i, x)
		}
	}
}

// P2.2

func TestBlockOfKnownWords(t *testing.T) {
	abc := make([]byte, 64) // the padded block of abc, FIPS 180-4's first example
	copy(abc, "abc\x80")
	abc[63] = 24
	first, last := make([]byte, 64), make([]byte, 64)
	first[0], last[63] = 0x80, 1
	var full, steps, highest, lowest [8]uint32
	for i := range 8 {
		full[i], steps[i], highest[i], lowest[i] = math.MaxUint32, uint32(i+1)*0x11111111, 1<<31, 1
	}
	rising := make([]byte, 64)
	for i := range rising {
		rising[i] = byte(i)
	}
	for _, x := range []struct {
		w    [8]uint32
		b    []byte
		want [8]uint32
	}{
		{sha.New().H, abc, [8]uint32{0xba7816bf, 0x8f01cfea, 0x414140de, 0x5dae2223, 0xb00361a3, 0x96177a9c, 0xb410ff61, 0xf20015ad}},
		{[8]uint32{}, make([]byte, 64), [8]uint32{0x7ca51614, 0x425c3ba8, 0xce54dd2f, 0xc2020ae7, 0xb6e574d1, 0x98136d0f, 0xae7e26cc, 0xbf0be7a6}},
		{full, bytes.Repeat([]byte{255}, 64), [8]uint32{0x0598127a, 0xaf11706e, 0x77401fff, 0xd730c549, 0x0b84c867, 0xa98c6ca3, 0xd7f3c0f9, 0x06a78b79}},
		{steps, rising, [8]uint32{0x0174c456, 0x53157d93, 0xe80e76fb, 0xc21799b8, 0x27583301, 0xa26515c3, 0x4804774f, 0x72078bdb}},
		{highest, first, [8]uint32{0x6ceb5386, 0xf3547cee, 0x74aa35fa, 0x7efb58a0, 0x94984a83, 0xeb3f14da, 0x4cb2fcae, 0x0be99215}},
		{lowest, last, [8]uint32{0xf8e3ea7f, 0x0b128288, 0x5b329a67, 0xf7742dda, 0x068ab14b, 0x4925e2d7, 0xb2903ae2, 0xfa425f68}},
	} {
		if w, e := sha.Block(x.w, x.b); w != x.want || e != api.OK {
			t.Errorf("Block(%08x, %x) = %08x, %d", x.w, x.b, w, e)
		}
	}
}

func TestBlocksOneBehindTheOther(t *testing.T) {
	b := several(64 * 200)
	w := sha.New().H
	for n := 0; n <= len(b); n += 64 {
		padding := make([]byte, 64)
		padding[0], padding[61], padding[62], padding[63] = 0x80, byte(8*n>>16), byte(8*n>>8), byte(8*n)
		if x, e := sha.Block(w, padding); !bytes.Equal(told(x), standard(b[:n])) || e != api.OK {
			t.Fatalf("behind %d bytes: %08x, %d", n, x, e)
		}
		if n < len(b) {
			w, _ = sha.Block(w, b[n:n+64])
		}
	}
}

func TestBlockRefusesOtherLengths(t *testing.T) {
	w := [8]uint32{1, 2, 3, 4, 5, 6, 7, math.MaxUint32}
	for _, n := range []int{0, 1, 32, 55, 56, 63, 65, 127, 128, 6400} {
		if x, e := sha.Block(w, several(n)); x != w || e != api.ErrArg {
			t.Errorf("Block of %d bytes = %x, %d", n, x, e)
		}
	}
	if x, e := sha.Block(w, nil); x != w || e != api.ErrArg {
		t.Errorf("Block of nothing = %x, %d", x, e)
	}
}

// P2.3

func TestPutTakesBlocksAndKeepsTheRest(t *testing.T) {
	b := several(400)
	for n := range len(b) + 1 {
		want := sha.New().H
		for at := 0; at+64 <= n; at += 64 {
			want, _ = sha.Block(want, b[at:at+64])
		}
		for cut := range n + 1 {
			h := sha.Put(sha.Put(sha.New(), b[:cut]), b[cut:n])
			if h.H != want || h.N != n || !bytes.Equal(h.Rest, b[n-n%64:n]) || !sha.Right(h) {
				t.Fatalf("%d bytes behind %d: %v", n-cut, cut, h)
			}
		}
	}
}

func TestPutGoesOnFromAnyWords(t *testing.T) {
	w := [8]uint32{math.MaxUint32, 0, 1, 2, 3, 4, 5, 6}
	rest, more := several(63), []byte{9, 8}
	want, _ := sha.Block(w, append(bytes.Clone(rest), 9))
	h := sha.Put(api.Hash{H: w, N: 63 + 1<<40, Rest: rest}, more)
	if !same(h, api.Hash{H: want, N: 65 + 1<<40, Rest: []byte{8}}) {
		t.Error(h)
	}
}

func TestPutOfNothingChangesNothing(t *testing.T) {
	for _, h := range []api.Hash{sha.New(), pieces(several(70), 9), {H: [8]uint32{5}, N: most}, {N: most - 1, Rest: several(63)}} {
		for _, b := range [][]byte{nil, {}} {
			if x := sha.Put(h, b); !same(x, h) {
				t.Errorf("%v is %v", h, x)
			}
		}
	}
}

func TestPutTakesUpToItsBound(t *testing.T) {
	w := [8]uint32{1, 2, 3, 4, 5, 6, 7, 8}
	rest := several(63)
	near := api.Hash{H: w, N: most - 1, Rest: rest}
	want, _ := sha.Block(w, append(bytes.Clone(rest), 77))
	full := sha.Put(near, []byte{77})
	if !same(full, api.Hash{H: want, N: most}) || !sha.Right(full) {
		t.Errorf("up to the bound: %v", full)
	}
	if x := sha.Put(api.Hash{H: w, N: most - 640}, several(640)); x.N != most || len(x.Rest) != 0 || x.H == w {
		t.Errorf("ten blocks up to the bound: %v", x)
	}
	for _, x := range []struct {
		h api.Hash
		n int
	}{{near, 2}, {near, 65}, {near, 5000}, {full, 1}, {full, 64}, {api.Hash{H: w, N: most - 64}, 65}, {api.Hash{H: w, N: most - 100, Rest: several(28)}, 101}} {
		if got := sha.Put(x.h, several(x.n)); !same(got, x.h) {
			t.Errorf("%d bytes behind %d: %v", x.n, x.h.N, got)
		}
	}
}

// P2.4

func TestSumFillsTheLastBlock(t *testing.T) {
	b := several(1000)
	for n := range len(b) + 1 {
		if x := sha.Sum(sha.Put(sha.New(), b[:n])); !bytes.Equal(x, standard(b[:n])) {
			t.Errorf("Sum behind %d bytes = %x", n, x)
		}
		if x := sha.Of(b[:n]); !bytes.Equal(x, standard(b[:n])) {
			t.Errorf("Of %d bytes = %x", n, x)
		}
	}
}

func TestSumTellsTheBitsInEightBytes(t *testing.T) {
	w := [8]uint32{8, 7, 6, 5, 4, 3, 2, 1}
	for n, count := range map[int]string{
		0: "0000000000000000", 1 << 29: "0000000100000000", 1 << 40: "0000080000000000", 0x123456789a00: "000091a2b3c4d000", most - 64: "001ffffffffffe00", most: "0020000000000000",
	} {
		padding, _ := hex.DecodeString("80" + strings.Repeat("00", 55) + count)
		want, _ := sha.Block(w, padding)
		if x := sha.Sum(api.Hash{H: w, N: n}); !bytes.Equal(x, told(want)) {
			t.Errorf("Sum behind %d bytes = %x", n, x)
		}
	}
}

func TestSumTakesOneBlockOrTwo(t *testing.T) {
	w := [8]uint32{8, 7, 6, 5, 4, 3, 2, 1}
	for rest := range 64 {
		n := 1<<45 + rest
		padded := append(several(rest), 0x80)
		for len(padded)%64 != 56 {
			padded = append(padded, 0)
		}
		padded = append(padded, 0, 1, 0, 0, 0, 0, byte(8*rest>>8), byte(8*rest))
		want := w
		for at := 0; at < len(padded); at += 64 {
			want, _ = sha.Block(want, padded[at:at+64])
		}
		if x := sha.Sum(api.Hash{H: w, N: n, Rest: several(rest)}); !bytes.Equal(x, told(want)) {
			t.Errorf("Sum with %d bytes left = %x", rest, x)
		}
	}
}

// P2.5

func TestPiecesMakeNoDifference(t *testing.T) {
	b := several(700)
	want := standard(b)
	for size := 1; size <= len(b); size++ {
		if x := sha.Sum(pieces(b, size)); !bytes.Equal(x, want) {
			t.Errorf("in pieces of %d: %x", size, x)
		}
	}
	h := sha.New()
	for at, size := 0, 0; at < len(b); size++ { // of rising sizes, and none between
		end := min(at+size, len(b))
		h = sha.Put(sha.Put(h, b[at:end]), nil)
		at = end
	}
	if x := sha.Sum(h); !bytes.Equal(x, want) || h.N != len(b) {
		t.Errorf("in pieces of rising sizes: %x", x)
	}
}

func TestDigestsOfTheStandard(t *testing.T) {
	for s, want := range map[string]string{
		"":    "e3b0c44298fc1c149afbf4c8996fb92427ae41e4649b934ca495991b7852b855",
		"abc": "ba7816bf8f01cfea414140de5dae2223b00361a396177a9cb410ff61f20015ad",
		"abcdbcdecdefdefgefghfghighijhijkijkljklmklmnlmnomnopnopq":                                                         "248d6a61d20638b8e5c026930c3e6039a33ce45964ff2167f6ecedd419db06c1",
		"abcdefghbcdefghicdefghijdefghijkefghijklfghijklmghijklmnhijklmnoijklmnopjklmnopqklmnopqrlmnopqrsmnopqrstnopqrstu": "cf5b16a778af8380036ce59e7b0492370b249b11e8f07a51afac45037afee9d1",
		strings.Repeat("a", 1000000): "cdc76e5c9914fb9281a1c7e284d73e67f1809a48a497200e046d39ccc7112cd0",
	} {
		if x := hex.EncodeToString(sha.Of([]byte(s))); x != want {
			t.Errorf("of %d bytes: %s", len(s), x)
		}
	}
	if x := hex.EncodeToString(sha.Sum(sha.New())); x != "e3b0c44298fc1c149afbf4c8996fb92427ae41e4649b934ca495991b7852b855" {
		t.Errorf("of nothing: %s", x)
	}
	if h := sha.Put(sha.New(), several(70)); len(h.Rest) != 6 || h.N != 70 {
		t.Errorf("behind 70 bytes: %v", h)
	}
}

// R1, R3 and R4

func TestWrongDigestsEnd(t *testing.T) {
	for _, h := range wrong() {
		for _, n := range []int{0, 1, 63, 64, 65, 1000} {
			sha.Put(h, several(n))
		}
		if x := sha.Sum(h); len(x) != api.Digest {
			t.Errorf("%d bytes and %d left: %x", h.N, len(h.Rest), x)
		}
	}
}

func TestWhatIsHandedInIsNotWrittenInto(t *testing.T) {
	room := bytes.Repeat([]byte{0xee}, 300) // Rest is a piece of it, with room behind
	copy(room, several(70)[64:])
	kept := bytes.Clone(room)
	h := sha.Put(sha.New(), several(70))
	h.Rest = room[:6:300]
	b := several(100)
	sha.Put(h, b)
	sha.Put(h, b[:3])
	sha.Put(h, nil)
	sha.Sum(h)
	sha.Block(h.H, b[:64])
	if !bytes.Equal(room, kept) || !bytes.Equal(b, several(100)) {
		t.Errorf("%x, %x", room, b)
	}
}

func TestAnswersAreApart(t *testing.T) {
	h := sha.Put(sha.New(), several(70))
	one, other := sha.Put(h, []byte{1, 1}), sha.Put(h, []byte{2, 2, 2})
	if !bytes.Equal(one.Rest, append(several(70)[64:], 1, 1)) || !bytes.Equal(other.Rest, append(several(70)[64:], 2, 2, 2)) {
		t.Errorf("%x, %x", one.Rest, other.Rest)
	}
	full := api.Hash{N: most, Rest: nil}
	near := api.Hash{N: most - 1, Rest: several(63)}
	for name, x := range map[string]struct{ from, to api.Hash }{"bytes": {h, one}, "none": {h, sha.Put(h, nil)}, "full": {full, sha.Put(full, []byte{1})}, "too many": {near, sha.Put(near, several(9))}} {
		kept := bytes.Clone(x.from.Rest)
		clear(x.to.Rest)
		if !bytes.Equal(x.from.Rest, kept) {
			t.Errorf("%s: Rest is shared", name)
		}
	}
	b := several(40)
	later := sha.Put(sha.New(), b)
	clear(b)
	if !bytes.Equal(later.Rest, several(40)) {
		t.Errorf("changed with what was handed in: %x", later.Rest)
	}
	for name, call := range map[string]func() []byte{"Sum": func() []byte { return sha.Sum(one) }, "Of": func() []byte { return sha.Of(several(9)) }} {
		first := call()
		want := bytes.Clone(first)
		clear(first)
		if again := call(); !bytes.Equal(again, want) {
			t.Errorf("%s answers %x behind %x", name, again, want)
		}
	}
}
