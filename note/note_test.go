package note_test

import (
	"bytes"
	"encoding/hex"
	"fmt"
	"math"
	"regexp"
	"slices"
	"strconv"
	"strings"
	"testing"

	"yett/api"
	"yett/ask"
	"yett/field"
	"yett/iso"
	"yett/note"
)

const (
	most = 999999     // the greatest trace number, and the greatest date
	gens = 2147483647 // the greatest generation

	nonceSigns = "00010203fcfdfeff"
)

// codes are all of them.
func codes() []int { return []int{1, 2, 101, 201, 301} }

// plain are those of questions that ask for nothing more.
func plain() []int { return []int{1, 2, 301} }

// dice tells numbers that look thrown, always the same ones from one seed.
type dice uint64

func (d *dice) below(n int) int {
	*d = *d*6364136223846793005 + 1442695040888963407
	return int(uint64(*d) >> 33 % uint64(n))
}

// some are n bytes that look thrown.
func (d *dice) some(n int) []byte {
	out := make([]byte, n)
	for i := range out {
		out[i] = byte(d.below(256))
	}
	return out
}

// thrown is a right note.
func (d *dice) thrown() api.Note {
	n := api.Note{Code: codes()[d.below(5)], Stan: 1 + d.below(most)}
	if d.below(3) == 0 {
		n.Res = d.below(100)
		return n
	}
	n.Req = true
	switch n.Code {
	case 101:
		n.Gen, n.Nonce, n.Kcv = 1+d.below(gens), d.some(8), d.some(3)
	case 201:
		n.Day = d.below(most + 1)
	}
	return n
}

// wild are numbers far from all that counts; some are such ones where bits are lost.
func wild() []int {
	out := []int{math.MinInt, math.MinInt + 1, math.MinInt + 8, math.MaxInt, math.MaxInt - 1, -most, -1000000, -301, -101, -100, -99, -9, -8, -3, -2, -1}
	for _, far := range []int{8, 16, 31, 32, 53, 62} {
		for _, n := range []int{0, 1, 2, 3, 8, 99, 101, 201, 301, most} {
			out = append(out, 1<<far+n, n-1<<far)
		}
	}
	return out
}

// numbers are small ones, those at the edges of what counts, and wild ones.
func numbers() []int {
	out := wild()
	for n := range 1100 {
		out = append(out, n)
	}
	for _, edge := range []int{10000, 65536, 99999, 100000, 500000, 999998, most, 1000000, 1000001, 2000000, 1 << 20, gens - 1, gens, gens + 1, gens + 2, 9999999999999999, 10000000000000000} {
		out = append(out, edge)
	}
	return out
}

// same: are two notes the same? (Not as the program asks it.)
func same(a, b api.Note) bool { return told(a) == told(b) }

// told is a note as a text: each one's own.
func told(n api.Note) string {
	return fmt.Sprintf("%t %d %d %d %d %x %x %d", n.Req, n.Code, n.Stan, n.Res, n.Gen, n.Nonce, n.Kcv, n.Day)
}

// blank: is it the note that an error answers?
func blank(n api.Note) bool { return same(n, api.Note{}) }

// right: is a note right? As the document tells it. (Not as the program asks it.)
func right(n api.Note) bool {
	if !slices.Contains(codes(), n.Code) || n.Stan <= 0 || n.Stan > 999999 {
		return false
	}
	res, gen, day := n.Res == 0, n.Gen == 0 && len(n.Nonce) == 0 && len(n.Kcv) == 0, n.Day == 0
	if !n.Req {
		res = n.Res >= 0 && n.Res < 100
	}
	if n.Req && n.Code == 101 {
		gen = n.Gen > 0 && n.Gen < 1<<31 && len(n.Nonce) == 8 && len(n.Kcv) == 3
	}
	if n.Req && n.Code == 201 {
		day = n.Day >= 0 && n.Day < 1000000
	}
	return res && gen && day
}

// standing are a right note's bytes, as the document tells them: each of the four kinds has rows of bits of its own. (Not as the program lays them.)
func standing(n api.Note) []byte {
	var s string
	switch {
	case !n.Req:
		s = fmt.Sprintf("0810 8020000002000000 0400000000000000 %06d %x 0%03d", n.Stan, fmt.Sprintf("%02d", n.Res), n.Code)
	case n.Code == 101:
		s = fmt.Sprintf("0800 8020000000010800 0400000100000000 %06d 0006 %x %016d 0101 %x", n.Stan, hex.EncodeToString(n.Kcv), n.Gen, n.Nonce)
	case n.Code == 201:
		s = fmt.Sprintf("0800 8022000000000000 0400000000000000 %06d %06d 0201", n.Stan, n.Day)
	default:
		s = fmt.Sprintf("0800 8020000000000000 0400000000000000 %06d 0%03d", n.Stan, n.Code)
	}
	return unhex(s)
}

// unhex is the bytes of signs, which stand in groups.
func unhex(s string) []byte {
	b, err := hex.DecodeString(strings.ReplaceAll(s, " ", ""))
	if err != nil {
		panic(s)
	}
	return b
}

// shape is how bytes of notes of one kind look, in signs.
func shape(s string) *regexp.Regexp {
	return regexp.MustCompile("^" + strings.ReplaceAll(s, " ", "") + "$")
}

var (
	answers = shape(`0810 8020000002000000 0400000000000000 (\d{6}) 3(\d)3(\d) 0(\d{3})`)
	keys    = shape(`0800 8020000000010800 0400000100000000 (\d{6}) 0006 ((?:3\d|6[1-6]){6}) (\d{16}) 0101 ([0-9a-f]{16})`)
	dates   = shape(`0800 8022000000000000 0400000000000000 (\d{6}) (\d{6}) 0201`)
	others  = shape(`0800 8020000000000000 0400000000000000 (\d{6}) 0(\d{3})`)
)

// worth is the number of figures.
func worth(s string) int {
	n, err := strconv.Atoi(s)
	if err != nil {
		panic(s)
	}
	return n
}

// taken is the right note whose bytes these are, and whether there is one. (Not as the program takes it.)
func taken(b []byte) (api.Note, bool) {
	var n api.Note
	s := hex.EncodeToString(b)
	if l := answers.FindStringSubmatch(s); l != nil {
		n = api.Note{Stan: worth(l[1]), Res: worth(l[2] + l[3]), Code: worth(l[4])}
	} else if l := keys.FindStringSubmatch(s); l != nil {
		n = api.Note{Req: true, Code: 101, Stan: worth(l[1]), Kcv: unhex(string(unhex(l[2]))), Gen: worth(l[3]), Nonce: unhex(l[4])}
	} else if l := dates.FindStringSubmatch(s); l != nil {
		n = api.Note{Req: true, Code: 201, Stan: worth(l[1]), Day: worth(l[2])}
	} else if l := others.FindStringSubmatch(s); l != nil {
		n = api.Note{Req: true, Stan: worth(l[1]), Code: worth(l[2])}
		if !slices.Contains(plain(), n.Code) {
			return api.Note{}, false
		}
	}
	if !right(n) {
		return api.Note{}, false
	}
	return n, true
}

// deep is a note in memory of its own.
func deep(n api.Note) api.Note {
	n.Nonce, n.Kcv = bytes.Clone(n.Nonce), bytes.Clone(n.Kcv)
	return n
}

// offers are questions that offer a key.
func offers() []api.Note {
	var out []api.Note
	nonces := [][]byte{make([]byte, 8), bytes.Repeat([]byte{0xff}, 8), {1, 2, 3, 4, 5, 6, 7, 8}}
	checks := [][]byte{make([]byte, 3), {0xff, 0xff, 0xff}, {0xab, 0xcd, 0xef}, {0x01, 0x23, 0x45}, {0x09, 0x0a, 0xa0}}
	for _, stan := range []int{1, 2, 123456, most} {
		for _, gen := range []int{1, 2, 9, 10, 255, 256, 65536, 123456789, gens - 1, gens} {
			for _, nonce := range nonces {
				for _, kcv := range checks {
					out = append(out, api.Note{Req: true, Code: 101, Stan: stan, Gen: gen, Nonce: nonce, Kcv: kcv})
				}
			}
		}
	}
	return out
}

// questions are right ones, with each part at its edges.
func questions() []api.Note {
	out := offers()
	for _, stan := range []int{1, 2, 7, 10, 99, 12345, 123456, 999990, most - 1, most} {
		for _, code := range plain() {
			out = append(out, api.Note{Req: true, Code: code, Stan: stan})
		}
		for _, day := range []int{0, 1, 260, 99999, 100000, 261120, most - 1, most} {
			out = append(out, api.Note{Req: true, Code: 201, Stan: stan, Day: day})
		}
	}
	return out
}

// replies are right answers of each code and each result.
func replies() []api.Note {
	var out []api.Note
	for _, code := range codes() {
		for _, stan := range []int{1, 2, 70, 123456, most - 1, most} {
			for res := range 100 {
				out = append(out, api.Note{Code: code, Stan: stan, Res: res})
			}
		}
	}
	return out
}

// rights are right notes of each kind.
func rights() []api.Note {
	out := append(questions(), replies()...)
	d := dice(16)
	for range 2000 {
		out = append(out, d.thrown())
	}
	return out
}

// fewer are every n-th note: enough of them, where each is asked for much.
func fewer(all []api.Note, n int) []api.Note {
	var out []api.Note
	for i := 0; i < len(all); i += n {
		out = append(out, all[i])
	}
	return out
}

// bases are a right note of each kind and code.
func bases() []api.Note {
	out := []api.Note{
		{Req: true, Code: 101, Stan: 12, Gen: 3, Nonce: []byte{1, 2, 3, 4, 5, 6, 7, 8}, Kcv: []byte{0xab, 0xcd, 0xef}},
		{Req: true, Code: 201, Stan: 12, Day: 261120},
		{Req: true, Code: 201, Stan: 12},
	}
	for _, code := range plain() {
		out = append(out, api.Note{Req: true, Code: code, Stan: 12})
	}
	for _, code := range codes() {
		out = append(out, api.Note{Code: code, Stan: 12, Res: 63}, api.Note{Code: code, Stan: 12})
	}
	return out
}

// changes are notes that differ from one in one part.
func changes(n api.Note) []api.Note {
	var out []api.Note
	turn := func(f func(n *api.Note)) {
		x := deep(n)
		f(&x)
		out = append(out, x)
	}
	turn(func(n *api.Note) { n.Req = !n.Req })
	for _, by := range []int{1, -1, 100, 1 << 31, 1 << 40, math.MinInt} {
		turn(func(n *api.Note) { n.Code += by })
		turn(func(n *api.Note) { n.Stan += by })
		turn(func(n *api.Note) { n.Res += by })
		turn(func(n *api.Note) { n.Gen += by })
		turn(func(n *api.Note) { n.Day += by })
	}
	for _, of := range []func(n *api.Note) *[]byte{func(n *api.Note) *[]byte { return &n.Nonce }, func(n *api.Note) *[]byte { return &n.Kcv }} {
		turn(func(n *api.Note) { *of(n) = append(*of(n), 0) })
		for i := range *of(&n) {
			turn(func(n *api.Note) { (*of(n))[i] ^= 1 })
			turn(func(n *api.Note) { (*of(n))[i] ^= 128 })
			turn(func(n *api.Note) { *of(n) = (*of(n))[:i] })
		}
	}
	return out
}

// parted are notes of one right one with any number in any part, and any count of bytes.
func parted(n api.Note) []api.Note {
	var out []api.Note
	for _, x := range numbers() {
		a, b, c, d, e := n, n, n, n, n
		a.Code, b.Stan, c.Res, d.Gen, e.Day = x, x, x, x, x
		out = append(out, a, b, c, d, e)
	}
	for many := range 40 {
		a, b := n, n
		a.Nonce, b.Kcv = make([]byte, many), make([]byte, many)
		out = append(out, a, b)
	}
	for _, many := range []int{255, 256, 256 + 3, 256 + 8, 400, 900, 1000, 65536 + 3, 65536 + 8, 1 << 20} {
		a, b := n, n
		a.Nonce, b.Kcv = make([]byte, many), make([]byte, many)
		out = append(out, a, b)
	}
	a, b := n, n
	a.Nonce, b.Kcv = nil, nil
	return append(out, a, b, api.Note{})
}

// P16.1

func TestRightNotes(t *testing.T) {
	for _, n := range rights() {
		if !right(n) || !note.Right(n) {
			t.Fatalf("%s isn't right", told(n))
		}
	}
}

func TestRightByHand(t *testing.T) {
	eight, three := make([]byte, 8), make([]byte, 3)
	for i, x := range []struct {
		n    api.Note
		want bool
	}{
		{api.Note{}, false},
		{api.Note{Req: true}, false},
		{api.Note{Req: true, Code: api.Echo, Stan: 7}, true},
		{api.Note{Req: true, Code: api.Echo, Stan: 7, Nonce: []byte{}, Kcv: []byte{}}, true},
		{api.Note{Req: true, Code: api.Echo}, false},
		{api.Note{Req: true, Stan: 7}, false},
		{api.Note{Req: true, Code: api.Echo, Stan: -1}, false},
		{api.Note{Req: true, Code: api.Echo, Stan: 1000000}, false},
		{api.Note{Req: true, Code: api.Echo, Stan: 7, Res: 1}, false},
		{api.Note{Req: true, Code: api.Echo, Stan: 7, Day: 1}, false},
		{api.Note{Req: true, Code: api.Echo, Stan: 7, Gen: 1}, false},
		{api.Note{Req: true, Code: api.Echo, Stan: 7, Nonce: eight}, false},
		{api.Note{Req: true, Code: api.Echo, Stan: 7, Kcv: three}, false},
		{api.Note{Req: true, Code: api.SignOn, Stan: 1, Gen: 1, Nonce: eight, Kcv: three}, false},
		{api.Note{Req: true, Code: api.SignOff, Stan: 1, Day: 1}, false},
		{api.Note{Code: api.SignOn, Stan: 1}, true},
		{api.Note{Code: api.SignOff, Stan: 1, Res: 99}, true},
		{api.Note{Code: api.SignOff, Stan: 1, Res: 100}, false},
		{api.Note{Code: api.SignOff, Stan: 1, Res: -1}, false},
		{api.Note{Code: api.NewKey, Stan: 1, Res: 63}, true},
		{api.Note{Code: api.NewKey, Stan: 1, Gen: 1, Nonce: eight, Kcv: three}, false},
		{api.Note{Code: api.NewKey, Stan: 1, Gen: 1}, false},
		{api.Note{Code: api.Cutover, Stan: 1, Day: 1}, false},
		{api.Note{Code: api.Cutover, Stan: 1}, true},
		{api.Note{Req: true, Code: api.NewKey, Stan: 1}, false},
		{api.Note{Req: true, Code: api.NewKey, Stan: 1, Gen: 1, Nonce: eight, Kcv: three}, true},
		{api.Note{Req: true, Code: api.NewKey, Stan: 1, Gen: gens, Nonce: eight, Kcv: three}, true},
		{api.Note{Req: true, Code: api.NewKey, Stan: 1, Gen: gens + 1, Nonce: eight, Kcv: three}, false},
		{api.Note{Req: true, Code: api.NewKey, Stan: 1, Gen: 0, Nonce: eight, Kcv: three}, false},
		{api.Note{Req: true, Code: api.NewKey, Stan: 1, Gen: 1, Nonce: three, Kcv: eight}, false},
		{api.Note{Req: true, Code: api.NewKey, Stan: 1, Gen: 1, Nonce: eight}, false},
		{api.Note{Req: true, Code: api.NewKey, Stan: 1, Gen: 1, Kcv: three}, false},
		{api.Note{Req: true, Code: api.NewKey, Stan: 1, Gen: 1, Nonce: eight, Kcv: three, Res: 1}, false},
		{api.Note{Req: true, Code: api.NewKey, Stan: 1, Gen: 1, Nonce: eight, Kcv: three, Day: 1}, false},
		{api.Note{Req: true, Code: api.Cutover, Stan: 1}, true},
		{api.Note{Req: true, Code: api.Cutover, Stan: 1, Day: 999999}, true},
		{api.Note{Req: true, Code: api.Cutover, Stan: 1, Day: 1000000}, false},
		{api.Note{Req: true, Code: api.Cutover, Stan: 1, Day: -1}, false},
		{api.Note{Req: true, Code: api.Cutover, Stan: 1, Day: 1, Gen: 1}, false},
		{api.Note{Req: true, Code: api.Cutover, Stan: 1, Day: 1, Gen: 1, Nonce: eight, Kcv: three}, false},
	} {
		if note.Right(x.n) != x.want {
			t.Errorf("%d: Right(%s) is not %t", i, told(x.n), x.want)
		}
	}
}

func TestRightAsksForAllOfIt(t *testing.T) {
	many := 0
	each := func(n api.Note) {
		for _, nonce := range []int{0, 7, 8, 9} {
			for _, kcv := range []int{0, 2, 3, 4} {
				n.Nonce, n.Kcv = make([]byte, nonce), make([]byte, kcv)
				if note.Right(n) != right(n) {
					t.Fatalf("Right(%s) is %t", told(n), note.Right(n))
				}
				if right(n) {
					many++
				}
			}
		}
	}
	for _, req := range []bool{false, true} {
		for _, code := range []int{0, 1, 2, 101, 201, 301, 302} {
			for _, stan := range []int{0, 1, most, most + 1} {
				for _, res := range []int{-1, 0, 1, 99, 100} {
					for _, gen := range []int{-1, 0, 1, gens, gens + 1} {
						for _, day := range []int{-1, 0, 1, most, most + 1} {
							each(api.Note{Req: req, Code: code, Stan: stan, Res: res, Gen: gen, Day: day})
						}
					}
				}
			}
		}
	}
	if want := 2 * (5*3 + 3 + 2 + 3); many != want {
		t.Fatalf("%d right ones, not %d", many, want)
	}
}

func TestRightAsksForEachPart(t *testing.T) {
	for _, base := range bases() {
		for _, n := range parted(base) {
			if note.Right(n) != right(n) {
				t.Fatalf("Right(%s) is %t", told(n), note.Right(n))
			}
		}
	}
}

func TestRightOfEachCode(t *testing.T) {
	for code := -1100; code <= 1100; code++ {
		want := slices.Contains(codes(), code)
		if note.Right(api.Note{Code: code, Stan: 5, Res: 5}) != want {
			t.Errorf("an answer of code %d: not %t", code, want)
		}
		if asked := slices.Contains([]int{1, 2, 201, 301}, code); note.Right(api.Note{Req: true, Code: code, Stan: 5}) != asked {
			t.Errorf("a question of code %d: not %t", code, asked)
		}
	}
}

func TestSameAsksForAll(t *testing.T) {
	for _, n := range append(fewer(rights(), 5), bases()...) {
		if !note.Same(n, n) || !note.Same(n, deep(n)) || !note.Same(deep(n), n) {
			t.Fatalf("%s isn't the same as itself", told(n))
		}
		for _, x := range changes(n) {
			if note.Same(n, x) || note.Same(x, n) || !note.Same(x, deep(x)) {
				t.Fatalf("%s: the same as %s", told(x), told(n))
			}
		}
	}
}

func TestSameOfAnyNotes(t *testing.T) {
	l := append(bases(), api.Note{}, api.Note{Nonce: []byte{}}, api.Note{Kcv: make([]byte, 0, 9)}, api.Note{Nonce: []byte{0}}, api.Note{Kcv: []byte{0}}, api.Note{Req: true})
	for _, n := range []int{1, 2, -1, math.MaxInt, math.MinInt} {
		l = append(l, api.Note{Code: n}, api.Note{Stan: n}, api.Note{Res: n}, api.Note{Gen: n}, api.Note{Day: n}, api.Note{Req: true, Code: n})
	}
	for _, b := range []string{"a", "b", "ab", "ba", "12345678", "123", strings.Repeat("x", 1000)} {
		l = append(l, api.Note{Nonce: []byte(b)}, api.Note{Kcv: []byte(b)}, api.Note{Nonce: []byte(b), Kcv: []byte(b)}, api.Note{Nonce: []byte(b), Kcv: []byte("123")})
	}
	for _, a := range l {
		for _, b := range l {
			if note.Same(a, deep(b)) != same(a, b) {
				t.Fatalf("Same(%s, %s) is not %t", told(a), told(b), same(a, b))
			}
		}
	}
}

// written are bytes and the notes that they are, by hand.
func written() map[string]api.Note {
	return map[string]api.Note{
		"0800 8020000000000000 0400000000000000 000007 0301":                                                 {Req: true, Code: api.Echo, Stan: 7},
		"0800 8020000000000000 0400000000000000 000001 0001":                                                 {Req: true, Code: api.SignOn, Stan: 1},
		"0800 8020000000000000 0400000000000000 999999 0002":                                                 {Req: true, Code: api.SignOff, Stan: 999999},
		"0800 8022000000000000 0400000000000000 000012 261120 0201":                                          {Req: true, Code: api.Cutover, Stan: 12, Day: 261120},
		"0800 8022000000000000 0400000000000000 000012 000000 0201":                                          {Req: true, Code: api.Cutover, Stan: 12},
		"0800 8022000000000000 0400000000000000 000012 999999 0201":                                          {Req: true, Code: api.Cutover, Stan: 12, Day: 999999},
		"0800 8020000000010800 0400000100000000 000034 0006303962306666 0000000000000001 0101 " + nonceSigns: {Req: true, Code: api.NewKey, Stan: 34, Gen: 1, Nonce: []byte("\x00\x01\x02\x03\xfc\xfd\xfe\xff"), Kcv: []byte{0x09, 0xb0, 0xff}},
		"0800 8020000000010800 0400000100000000 000034 0006616263646566 0000002147483647 0101 " + nonceSigns: {Req: true, Code: api.NewKey, Stan: 34, Gen: gens, Nonce: []byte("\x00\x01\x02\x03\xfc\xfd\xfe\xff"), Kcv: []byte{0xab, 0xcd, 0xef}},
		"0810 8020000002000000 0400000000000000 000007 3030 0301":                                            {Code: api.Echo, Stan: 7},
		"0810 8020000002000000 0400000000000000 000034 3633 0101":                                            {Code: api.NewKey, Stan: 34, Res: 63},
		"0810 8020000002000000 0400000000000000 000012 3035 0201":                                            {Code: api.Cutover, Stan: 12, Res: 5},
		"0810 8020000002000000 0400000000000000 999999 3939 0001":                                            {Code: api.SignOn, Stan: 999999, Res: 99},
	}
}

func TestWriteByHand(t *testing.T) {
	for s, n := range written() {
		if b, e := note.Write(n); e != api.OK || !bytes.Equal(b, unhex(s)) {
			t.Errorf("Write(%s) = %x, %d", told(n), b, e)
		}
	}
}

func TestWriteTellsTheBytes(t *testing.T) {
	for _, n := range rights() {
		if b, e := note.Write(n); e != api.OK || !bytes.Equal(b, standing(n)) {
			t.Fatalf("Write(%s) = %x, %d", told(n), b, e)
		}
	}
}

func TestWriteIsThatOfTheMessage(t *testing.T) {
	for _, n := range bases() {
		b, _ := note.Write(n)
		m, e := iso.Read(b)
		if e != api.OK || m.Mti != 800 && n.Req || m.Mti != 810 && !n.Req {
			t.Fatalf("%s: a message of type %d, %d", told(n), m.Mti, e)
		}
		has := map[int]string{11: fmt.Sprintf("%06d", n.Stan), 70: fmt.Sprintf("%03d", n.Code)}
		switch {
		case !n.Req:
			has[39] = fmt.Sprintf("%02d", n.Res)
		case n.Code == 101:
			has[48], has[53], has[96] = hex.EncodeToString(n.Kcv), fmt.Sprintf("%016d", n.Gen), string(n.Nonce)
		case n.Code == 201:
			has[15] = fmt.Sprintf("%06d", n.Day)
		}
		for no := range 129 {
			want, had := has[no]
			if v, is := iso.Get(m, no); string(v) != want || is != had {
				t.Errorf("%s: field %d is %x, %t", told(n), no, v, is)
			}
		}
	}
}

func TestWriteRefuses(t *testing.T) {
	refused := func(n api.Note) {
		t.Helper()
		if b, e := note.Write(n); !right(n) && (e != api.ErrArg || len(b) != 0) {
			t.Fatalf("Write(%s) = %x, %d", told(n), b, e)
		}
	}
	for _, n := range bases() {
		for _, x := range append(parted(n), changes(n)...) {
			refused(x)
		}
	}
	for _, n := range fewer(rights(), 7) {
		for _, x := range changes(n) {
			refused(x)
		}
	}
}

// P16.2

func TestReadByHand(t *testing.T) {
	for s, n := range written() {
		if x, e := note.Read(unhex(s)); e != api.OK || !same(x, n) {
			t.Errorf("Read(%s) = %s, %d", s, told(x), e)
		}
	}
}

func TestReadTellsTheNote(t *testing.T) {
	for _, n := range rights() {
		if x, e := note.Read(standing(n)); e != api.OK || !same(x, n) || !note.Right(x) {
			t.Fatalf("Read of %s = %s, %d", told(n), told(x), e)
		}
	}
}

// reads: does Read answer what it has to: the note, chapter 7's error, or that they are no note's bytes? It tells which.
func reads(t *testing.T, b []byte) api.Errno {
	t.Helper()
	want, is := taken(b)
	fault := api.OK
	if _, e := iso.Read(b); e != api.OK {
		fault = e
	} else if !is {
		fault = api.ErrForm
	}
	n, e := note.Read(b)
	if e != fault || !same(n, want) || fault != api.OK && !blank(n) {
		t.Fatalf("Read(%x) = %s, %d, not %s, %d", b, told(n), e, told(want), fault)
	}
	return e
}

// readsMessage asks the same of a message's bytes.
func readsMessage(t *testing.T, m api.Msg) api.Errno {
	t.Helper()
	b, e := iso.Write(m)
	if e != api.OK {
		t.Fatalf("the message %v can't be written", m)
	}
	return reads(t, b)
}

// refuses: does Read answer this error, and nothing else?
func refuses(t *testing.T, b []byte, want api.Errno) {
	t.Helper()
	if n, e := note.Read(b); e != want || !blank(n) {
		t.Fatalf("Read(%x) = %s, %d, not %d", b, told(n), e, want)
	}
}

// message is a right note's.
func message(n api.Note) api.Msg {
	m, e := iso.Read(standing(n))
	if e != api.OK {
		panic(told(n))
	}
	return m
}

// set is a message with a field's value.
func set(m api.Msg, no int, v []byte) api.Msg {
	m, e := iso.Set(m, no, v)
	if e != api.OK {
		panic(fmt.Sprint(no, v))
	}
	return m
}

func TestReadOfBytesThatAreNoMessage(t *testing.T) {
	refuses(t, nil, api.ErrShort)
	refuses(t, []byte{}, api.ErrShort)
	refuses(t, []byte{0x08}, api.ErrShort)
	refuses(t, make([]byte, 1000), api.ErrForm)
	for _, x := range []struct {
		b    string
		want api.Errno
	}{
		{"0800", api.ErrShort},
		{"0800 0000000000000000", api.ErrForm},    // a message without fields
		{"0800 0000000000000000 00", api.ErrLong}, // chapter 7's error comes first
		{"0a00 0000000000000000", api.ErrForm},
		{"0900 0000000000000000", api.ErrForm},
		{"0800 8020000000000000", api.ErrShort},
		{"0800 8020000000000000 0000000000000000 000007", api.ErrForm},
		{"0800 8020000000000000 0400000000000000", api.ErrShort},
		{"0800 8020000000000000 0400000000000000 000007", api.ErrShort},
		{"0800 8020000000000000 0400000000000000 000007 03", api.ErrShort},
		{"0800 8020000000000000 0400000000000000 000007 1301", api.ErrForm},
		{"0800 8020000000000000 0400000000000000 00000a 0301", api.ErrForm},
		{"0800 8020000000000000 0400000000000000 000007 0301 00", api.ErrLong},
		{"0800 8020000000000000 0400000000000000 000000 0301 00", api.ErrLong}, // ahead of a trace number that is none
		{"0200 8020000000000000 0400000000000000 000007 0301 00", api.ErrLong}, // and of a type that isn't a note's
		{"0800 8020000000000000 0400000000000000 000007 0302 00", api.ErrLong}, // and of a code that is none
		{"0810 8020000002000000 0400000000000000 000007 3a30", api.ErrShort},   // and of a result that is none
		{"0810 8020000002000000 0400000000000000 000007 1f30 0301", api.ErrForm},
		{"0800 8020000000010800 0400000100000000 000034 0000303962306666 0000000000000001 0101 0102030405060708", api.ErrForm},
		{"0800 8020000000010800 0400000100000000 000034 0006303962306666 0000000000000001 0101 01020304050607", api.ErrShort},
	} {
		refuses(t, unhex(x.b), x.want)
	}
}

func TestReadOfBytesThatEndTooSoonOrGoOn(t *testing.T) {
	for _, n := range append(fewer(rights(), 20), bases()...) {
		b := standing(n)
		for end := range b {
			refuses(t, b[:end], api.ErrShort)
		}
		for _, more := range []string{"\x00", "\xff", "\x03\x01", string(b)} {
			refuses(t, append(bytes.Clone(b), more...), api.ErrLong)
		}
	}
}

func TestReadOfMessagesByHand(t *testing.T) {
	for _, s := range []string{
		"0200 8020000000000000 0400000000000000 000007 0301",                                                       // not of its type
		"0801 8020000000000000 0400000000000000 000007 0301",                                                       // not of its origin
		"0820 8020000000000000 0400000000000000 000007 0301",                                                       // an advice
		"0830 8020000002000000 0400000000000000 000007 3030 0301",                                                  // an advice's answer
		"0810 8020000000000000 0400000000000000 000007 0301",                                                       // an answer without a result
		"0800 8020000002000000 0400000000000000 000007 3030 0301",                                                  // a question with one
		"0800 0020000000000000 000007",                                                                             // without a code
		"0800 8000000000000000 0400000000000000 0301",                                                              // without a trace number
		"0800 8020000000000000 0400000000000000 000000 0301",                                                       // a trace number that is none
		"0800 8020000000000000 0400000000000000 000007 0000",                                                       // a code that is none
		"0800 8020000000000000 0400000000000000 000007 0003",                                                       // another one
		"0800 8020000000000000 0400000000000000 000007 0101",                                                       // a key is offered, and isn't there
		"0800 8020000000000000 0400000000000000 000007 0201",                                                       // a date is offered, and isn't there
		"0800 8022000000000000 0400000000000000 000007 000000 0301",                                                // a date that nobody offers
		"0800 8022000000000000 0400000000000000 000007 000000 0101",                                                // in the place of a key
		"0810 8022000002000000 0400000000000000 000007 261120 3030 0201",                                           // an answer with a date
		"0810 8020000002000000 0400000000000000 000007 3a30 0301",                                                  // a result that is no number
		"0810 8020000002000000 0400000000000000 000007 2035 0301",                                                  // another one
		"0810 8020000002000000 0400000000000000 000007 2b35 0301",                                                  // with a sign ahead
		"0800 8020000000010800 0400000100000000 000034 0006303962306666 0000000000000000 0101" + nonceSigns,        // no generation
		"0800 8020000000010800 0400000100000000 000034 0006303962306666 0000002147483648 0101" + nonceSigns,        // one too great
		"0800 8020000000010800 0400000100000000 000034 0006303962306666 9999999999999999 0101" + nonceSigns,        // the greatest figures
		"0800 8020000000010800 0400000100000000 000034 0006303942306666 0000000000000001 0101" + nonceSigns,        // a great letter
		"0800 8020000000010800 0400000100000000 000034 0006303962306667 0000000000000001 0101" + nonceSigns,        // a letter that is none
		"0800 8020000000010800 0400000100000000 000034 00053039623066 0000000000000001 0101" + nonceSigns,          // half a byte
		"0800 8020000000010800 0400000100000000 000034 000430396230 0000000000000001 0101" + nonceSigns,            // too few bytes
		"0800 8020000000010800 0400000100000000 000034 00083039623066663030 0000000000000001 0101" + nonceSigns,    // too many
		"0800 8020000000000800 0400000100000000 000034 0000000000000001 0101" + nonceSigns,                         // no check value
		"0800 8020000000010000 0400000100000000 000034 0006303962306666 0101" + nonceSigns,                         // no generation
		"0800 8020000000010800 0400000000000000 000034 0006303962306666 0000000000000001 0101",                     // no nonce
		"0800 8022000000010800 0400000100000000 000034 261120 0006303962306666 0000000000000001 0101" + nonceSigns, // a date besides
		"0800 8020000000010800 0400000100000000 000034 0006303962306666 0000000000000001 0301" + nonceSigns,        // not asked for
		"0810 8020000002010800 0400000100000000 000034 3030 0006303962306666 0000000000000001 0101" + nonceSigns,   // an answer with a key
		"0800 8020000000000000 0400000100000000 000007 0301" + nonceSigns,                                          // a nonce without a key
		"0800 8220000000000000 0400000000000000 1120120000 000007 0301",                                            // a field of no note
	} {
		if _, e := iso.Read(unhex(s)); e != api.OK {
			t.Errorf("%s is no message: %d", s, e)
		}
		refuses(t, unhex(s), api.ErrForm)
	}
}

func TestReadOfEachType(t *testing.T) {
	for _, n := range bases() {
		for mti := range 1000 {
			if m := message(n); iso.Type(mti) {
				m.Mti = mti
				if e := readsMessage(t, m); (e == api.OK) != (mti == 810 && !n.Req || mti == 800 && n.Req) {
					t.Fatalf("%s, of type %d: %d", told(n), mti, e)
				}
			}
		}
	}
}

// value is a value of a field, of as many signs as may be.
func value(no int) []byte {
	f, _ := field.Of(no)
	return bytes.Repeat([]byte{'1'}, f.Len)
}

func TestReadAsksForEachField(t *testing.T) {
	many := 0
	for _, n := range append(fewer(rights(), 20), bases()...) {
		m := message(n)
		for no := range 129 {
			if _, has := iso.Get(m, no); has {
				refuses(t, bytesOf(t, iso.Drop(m, no)), api.ErrForm)
				many++
			} else if _, is := field.Of(no); is {
				refuses(t, bytesOf(t, set(m, no, value(no))), api.ErrForm)
				many++
			}
		}
	}
	if many < 34*len(bases()) {
		t.Fatalf("no more than %d messages", many)
	}
}

// bytesOf are a message's.
func bytesOf(t *testing.T, m api.Msg) []byte {
	t.Helper()
	b, e := iso.Write(m)
	if e != api.OK {
		t.Fatalf("the message %v can't be written", m)
	}
	return b
}

func TestReadOfFieldsOfNought(t *testing.T) {
	noughts := map[int]string{15: "000000", 39: "00", 48: "000000", 53: "0000000000000000", 96: "\x00\x00\x00\x00\x00\x00\x00\x00"} // what would be 0 in the note
	for _, n := range bases() {
		for no, v := range noughts {
			if _, has := iso.Get(message(n), no); !has {
				refuses(t, bytesOf(t, set(message(n), no, []byte(v))), api.ErrForm)
			}
		}
	}
}

func TestReadOfEachList(t *testing.T) {
	fields := map[int]string{11: "000012", 15: "261120", 39: "63", 48: "abcdef", 53: "0000000000000003", 70: "", 96: "12345678"}
	read := 0
	for _, mti := range []int{800, 810, 820, 200} {
		for _, code := range []string{"001", "002", "101", "201", "301", "000", "102"} {
			for set := range 1 << len(fields) {
				m := api.Msg{Mti: mti}
				fields[70] = code
				for i, no := range []int{11, 15, 39, 48, 53, 70, 96} {
					if set>>i&1 == 1 {
						m.F = append(m.F, api.Val{No: no, B: []byte(fields[no])})
					}
				}
				if readsMessage(t, m) == api.OK {
					read++
				}
			}
		}
	}
	if read != 10 {
		t.Fatalf("%d notes, not one of each code as question and answer", read)
	}
}

func TestReadOfEachCode(t *testing.T) {
	for _, n := range bases() {
		for code := range 1000 {
			readsMessage(t, set(message(n), 70, fmt.Appendf(nil, "%03d", code)))
		}
	}
}

func TestReadOfEachNumber(t *testing.T) {
	offer, cutover := bases()[0], bases()[1]
	for _, x := range numbers() {
		if x >= 0 && x <= 999999 {
			for _, n := range bases() {
				readsMessage(t, set(message(n), 11, fmt.Appendf(nil, "%06d", x)))
			}
			if e := readsMessage(t, set(message(cutover), 15, fmt.Appendf(nil, "%06d", x))); e != api.OK {
				t.Fatalf("the date %d: %d", x, e)
			}
		}
		if x >= 0 && x < 10000000000000000 {
			if e := readsMessage(t, set(message(offer), 53, fmt.Appendf(nil, "%016d", x))); (e == api.OK) != (x >= 1 && x <= gens) {
				t.Fatalf("the generation %d: %d", x, e)
			}
		}
	}
}

func TestReadOfEachResult(t *testing.T) {
	read := 0
	m := message(api.Note{Code: 201, Stan: 5})
	for a := byte(' '); a <= '~'; a++ {
		for b := byte(' '); b <= '~'; b++ {
			if readsMessage(t, set(m, 39, []byte{a, b})) == api.OK {
				read++
			}
		}
	}
	if read != 100 {
		t.Fatalf("%d results", read)
	}
}

func TestReadOfEachCheckValue(t *testing.T) {
	read := 0
	m := message(bases()[0])
	for place := range 6 {
		for sign := byte(' '); sign <= '~'; sign++ {
			v := []byte("abcdef")
			v[place] = sign
			if readsMessage(t, set(m, 48, v)) == api.OK {
				read++
			}
		}
	}
	if read != 6*16 {
		t.Fatalf("%d check values", read)
	}
	for n := 1; n <= 400; n++ {
		if e := readsMessage(t, set(m, 48, bytes.Repeat([]byte{'0'}, n))); (e == api.OK) != (n == 6) {
			t.Fatalf("a check value of %d signs: %d", n, e)
		}
	}
}

func TestReadOfEachChangedByte(t *testing.T) {
	counts := map[api.Errno]int{}
	for _, n := range bases() {
		for at := range standing(n) {
			for x := range 256 {
				b := standing(n)
				b[at] = byte(x)
				counts[reads(t, b)]++
			}
		}
	}
	enough(t, counts)
}

func TestReadOfSpoiledBytes(t *testing.T) {
	d := dice(162)
	counts := map[api.Errno]int{}
	for range 40000 {
		b := standing(d.thrown())
		for range d.below(3) {
			at := d.below(len(b))
			b[at] = []byte{byte(d.below(256)), b[at] ^ 1<<d.below(8), byte(d.below(10)<<4 | d.below(10))}[d.below(3)]
		}
		if d.below(5) == 0 {
			b = b[:d.below(len(b))]
		}
		if d.below(5) == 0 {
			b = append(b, d.some(d.below(3))...)
		}
		counts[reads(t, b)]++
	}
	enough(t, counts)
}

// enough: did each answer of Read come, and often?
func enough(t *testing.T, counts map[api.Errno]int) {
	t.Helper()
	for _, e := range []api.Errno{api.OK, api.ErrShort, api.ErrForm, api.ErrLong} {
		if counts[e] < 50 {
			t.Fatalf("so many of each error: %v", counts)
		}
	}
}

func TestReadOfAnyMessage(t *testing.T) {
	d := dice(163)
	none := 0
	for range 20000 {
		m := api.Msg{Mti: 800 + 10*d.below(2)}
		for no := range 129 {
			if _, is := field.Of(no); is && d.below(6) == 0 {
				m = set(m, no, value(no))
			}
		}
		if readsMessage(t, m) == api.ErrForm {
			none++
		}
	}
	if none < 10000 {
		t.Fatalf("no more than %d messages were no note's", none)
	}
}

// P16.3

func TestAnswer(t *testing.T) {
	for _, n := range questions() {
		for res := range 100 {
			a, e := note.Answer(n, res)
			if e != api.OK || !same(a, api.Note{Code: n.Code, Stan: n.Stan, Res: res}) || !note.Right(a) {
				t.Fatalf("Answer(%s, %d) = %s, %d", told(n), res, told(a), e)
			}
		}
	}
}

func TestAnswerByHand(t *testing.T) {
	for i, x := range []struct {
		n    api.Note
		res  int
		want api.Note
		e    api.Errno
	}{
		{api.Note{Req: true, Code: 301, Stan: 7}, 0, api.Note{Code: 301, Stan: 7}, api.OK},
		{api.Note{Req: true, Code: 1, Stan: 999999}, 99, api.Note{Code: 1, Stan: 999999, Res: 99}, api.OK},
		{api.Note{Req: true, Code: 201, Stan: 3, Day: 261120}, 5, api.Note{Code: 201, Stan: 3, Res: 5}, api.OK},
		{bases()[0], 63, api.Note{Code: 101, Stan: 12, Res: 63}, api.OK},
		{api.Note{Req: true, Code: 301, Stan: 7}, 100, api.Note{}, api.ErrArg},
		{api.Note{Req: true, Code: 301, Stan: 7}, -1, api.Note{}, api.ErrArg},
		{bases()[0], 100, api.Note{}, api.ErrArg},
		{api.Note{Code: 301, Stan: 7}, 0, api.Note{}, api.ErrState},
		{api.Note{Code: 301, Stan: 7, Res: 5}, 5, api.Note{}, api.ErrState},
		{api.Note{Code: 301, Stan: 7}, 100, api.Note{}, api.ErrState},
		{api.Note{Code: 301, Stan: 7}, -1, api.Note{}, api.ErrState},
	} {
		if a, e := note.Answer(x.n, x.res); e != x.e || !same(a, x.want) {
			t.Errorf("%d: Answer(%s, %d) = %s, %d", i, told(x.n), x.res, told(a), e)
		}
	}
}

func TestAnswerRefuses(t *testing.T) {
	for _, n := range bases() {
		for _, res := range numbers() {
			want := api.OK
			if !n.Req { // ahead of a result that is none
				want = api.ErrState
			} else if res < 0 || res > 99 {
				want = api.ErrArg
			}
			if a, e := note.Answer(n, res); e != want || e != api.OK && !blank(a) {
				t.Fatalf("Answer(%s, %d) = %s, %d", told(n), res, told(a), e)
			}
		}
	}
	for _, n := range replies() {
		if a, e := note.Answer(n, n.Res); e != api.ErrState || !blank(a) {
			t.Fatalf("Answer(%s) = %s, %d", told(n), told(a), e)
		}
	}
}

// P16.4

func TestWhatIsWrittenIsRead(t *testing.T) {
	seen := map[string]string{}
	for _, n := range rights() {
		b, e := note.Write(n)
		x, f := note.Read(b)
		if e != api.OK || f != api.OK || !same(x, n) || !note.Same(x, n) {
			t.Fatalf("%s, written and read: %d, %s, %d", told(n), e, told(x), f)
		}
		if other, had := seen[string(b)]; had && other != told(n) {
			t.Fatalf("%s and %s have the same bytes", other, told(n))
		}
		seen[string(b)] = told(n)
	}
}

func TestWhatIsReadIsWritten(t *testing.T) {
	d := dice(164)
	read := 0
	for range 40000 {
		b := standing(d.thrown())
		for range d.below(3) { // figures and bytes behind the bits
			b[18+d.below(len(b)-18)] = byte(d.below(10)<<4 | d.below(10))
		}
		n, e := note.Read(b)
		if e != api.OK {
			continue
		}
		read++
		if again, f := note.Write(n); f != api.OK || !bytes.Equal(again, b) || !note.Right(n) {
			t.Fatalf("%x, read as %s, is written again as %x, %d", b, told(n), again, f)
		}
	}
	if read < 10000 {
		t.Fatalf("no more than %d rows of bytes were notes", read)
	}
}

func TestAnAnswerMatchesItsQuestion(t *testing.T) {
	d := dice(165)
	for _, n := range append(fewer(questions(), 3), bases()[:6]...) {
		b, _ := note.Write(n)
		q, e := ask.Begin(n.Code, n.Stan, b)
		if e != api.OK {
			t.Fatalf("%s can't be asked: %d", told(n), e)
		}
		asked, e := note.Read(q.Body)
		if e != api.OK {
			t.Fatalf("%s can't be read: %d", told(n), e)
		}
		a, e := note.Answer(asked, d.below(100))
		if e != api.OK || !ask.Match(q, a.Code, a.Stan) {
			t.Fatalf("%s is answered by %s, %d, and doesn't match it", told(n), told(a), e)
		}
		back, _ := note.Write(a)
		if x, e := note.Read(back); e != api.OK || !ask.Match(q, x.Code, x.Stan) || x.Req || x.Res != a.Res {
			t.Fatalf("%s is answered by %s, %d, and doesn't match it", told(n), told(x), e)
		}
		for _, other := range bases() {
			if x, e := note.Answer(other, 0); e == api.OK && ask.Match(q, x.Code, x.Stan) != (other.Code == n.Code && other.Stan == n.Stan) {
				t.Fatalf("%s and the answer to %s", told(n), told(other))
			}
		}
	}
}

// R1, R3 and R4

// anys are notes that aren't right, and some that are.
func anys() []api.Note {
	out := append(bases(), api.Note{})
	for _, n := range bases() {
		out = append(out, parted(n)...)
		out = append(out, changes(n)...)
	}
	for _, n := range wild() {
		out = append(out, api.Note{Code: n, Stan: n, Res: n, Gen: n, Day: n}, api.Note{Req: true, Code: n, Stan: n, Res: n, Gen: n, Day: n, Nonce: []byte("n"), Kcv: []byte("k")})
	}
	return out
}

func TestEachCallEndsWhateverItIsGiven(t *testing.T) {
	for _, n := range anys() {
		note.Right(n)
		note.Write(n)
		note.Same(n, api.Note{})
		note.Read(n.Nonce)
		for _, res := range []int{0, 99, 100, n.Res, n.Stan, math.MinInt, math.MaxInt} {
			note.Answer(n, res)
		}
	}
	d := dice(166)
	for range 20000 {
		reads(t, d.some(d.below(80)))
	}
}

// roomy is a note whose bytes have room behind them, and all of that memory.
func roomy(n api.Note) (api.Note, []byte) {
	all := slices.Concat(n.Nonce, []byte("room"), n.Kcv, []byte("room"))
	end := len(n.Nonce)
	n.Nonce, n.Kcv = all[:end], all[end+4:end+4+len(n.Kcv)]
	return n, all
}

// scratch writes over all the memory of a list, and that behind it, too.
func scratch(b []byte) {
	b = b[:cap(b)]
	for i := range b {
		b[i] ^= 0xff
	}
}

func TestWhatIsHandedInStays(t *testing.T) {
	for _, n := range append(fewer(rights(), 3), bases()...) {
		in, all := roomy(n)
		was := bytes.Clone(all)
		note.Right(in)
		note.Same(in, in)
		note.Answer(in, 5)
		b, _ := note.Write(in)
		if !bytes.Equal(all, was) || !same(in, n) {
			t.Fatalf("%s became %s", told(n), told(in))
		}
		room := append(bytes.Clone(b), "room"...)
		kept := bytes.Clone(room)
		x, _ := note.Read(room[:len(b)])
		note.Write(x)
		note.Answer(x, 7)
		if !bytes.Equal(room, kept) || !same(x, n) {
			t.Fatalf("%x became %x", kept, room)
		}
	}
}

func TestAnswersAreNewMemory(t *testing.T) {
	for _, n := range append(fewer(rights(), 3), bases()...) {
		in, all := roomy(n)
		was := bytes.Clone(all)
		b, _ := note.Write(in)
		kept := bytes.Clone(b)
		scratch(all)
		if !bytes.Equal(b, kept) {
			t.Fatalf("who writes into %s changes its bytes", told(n))
		}
		scratch(all)
		x, _ := note.Read(b)
		y, _ := note.Read(b)
		scratch(b)
		if !bytes.Equal(all, was) || !same(x, n) {
			t.Fatalf("who writes into the bytes of %s changes it", told(n))
		}
		scratch(x.Nonce)
		if !bytes.Equal(x.Kcv, n.Kcv) || !same(y, n) {
			t.Fatalf("who writes into what was read changes %s", told(n))
		}
		scratch(x.Kcv)
		scratch(x.Nonce)
		if !bytes.Equal(x.Nonce, n.Nonce) || !same(y, n) {
			t.Fatalf("who writes into what was read changes %s", told(n))
		}
	}
}

func TestAnswersHangOnArgumentsAlone(t *testing.T) {
	for _, n := range append(fewer(rights(), 3), anys()[:2000]...) {
		b, e := note.Write(n)
		x, f := note.Read(b)
		a, g := note.Answer(n, n.Res)
		ok := note.Right(n)
		for _, other := range bases() {
			b, _ := note.Write(other)
			note.Read(b)
			note.Answer(other, 1)
			note.Right(other)
		}
		b2, e2 := note.Write(deep(n))
		x2, f2 := note.Read(bytes.Clone(b))
		a2, g2 := note.Answer(deep(n), n.Res)
		if !bytes.Equal(b, b2) || e != e2 || !same(x, x2) || f != f2 || !same(a, a2) || g != g2 || ok != note.Right(deep(n)) {
			t.Fatalf("%s, twice: %x, %d, %s, %d, %s, %d, and %x, %d, %s, %d, %s, %d", told(n), b, e, told(x), f, told(a), g, b2, e2, told(x2), f2, told(a2), g2)
		}
	}
}
