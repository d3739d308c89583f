package ring_test

import (
	"bytes"
	"math"
	"testing"

	"yett/api"
	"yett/ring"
)

const (
	gens = 2147483647 // 2^31 - 1, the greatest generation
	keep = 16         // ticks for which the one ahead is kept
)

// dice tells numbers that look thrown, always the same ones from one seed.
type dice uint64

func (d *dice) below(n int) int {
	*d = *d*6364136223846793005 + 1442695040888963407
	return int(uint64(*d) >> 33 % uint64(n))
}

// some is a key that looks thrown.
func (d *dice) some() []byte {
	out := make([]byte, 32)
	for i := range out {
		out[i] = byte(d.below(256))
	}
	return out
}

// key is a key that another number doesn't have.
func key(n int) []byte {
	out := bytes.Repeat([]byte{byte(n)}, 32)
	for i := range 8 {
		out[24+i] = byte(n >> (8 * i))
	}
	return out
}

// gen is the generation of a number, with a key of its own; none, of 0.
func gen(no int) api.Gen {
	if no == 0 {
		return api.Gen{}
	}
	return api.Gen{No: no, Key: key(no)}
}

// of is a ring of these numbers.
func of(cur, old, left, pend, top int) api.Ring {
	return api.Ring{Cur: gen(cur), Old: gen(old), Pend: gen(pend), Left: left, Top: top}
}

// noKeys are what has not 32 bytes.
func noKeys() [][]byte {
	var out [][]byte
	for _, n := range []int{0, 1, 16, 31, 33, 64, 1000} {
		out = append(out, make([]byte, n))
	}
	return append(out, nil, key(7)[:31], append(key(7), 0))
}

// noNumbers are numbers of no generation.
func noNumbers() []int {
	return []int{0, -1, -2, -gens, -gens - 1, math.MinInt, math.MinInt + 1, gens + 1, gens + 2, 1 << 32, 1<<32 + 1, 1<<32 + 2, math.MaxInt - 1, math.MaxInt}
}

// rights are right rings: the empty one, and such with one, two and three generations, far and near; Left and Top at their edges.
func rights() []api.Ring {
	out := []api.Ring{{}, {Cur: api.Gen{Key: []byte{}}, Old: api.Gen{Key: []byte{}}, Pend: api.Gen{Key: []byte{}}}}
	for _, cur := range []int{1, 2, 3, 1000, gens - 1, gens} {
		for _, old := range []int{0, 1, cur / 2, cur - 1} {
			for _, pend := range []int{0, cur + 1, cur + 2, gens} {
				if old >= cur || pend > gens || pend != 0 && pend <= cur {
					continue
				}
				most := max(cur, pend)
				for _, top := range []int{most, most + 1, gens} {
					for _, left := range []int{1, 2, 15, 16} {
						if top <= gens {
							out = append(out, of(cur, old, min(left, old*left), pend, top))
						}
					}
				}
			}
		}
	}
	r := of(5, 3, 9, 8, 9)
	r.Cur.Key, r.Old.Key, r.Pend.Key = key(1), key(1), key(1) // one key, thrice
	s := of(5, 3, 9, 8, 9)
	s.Cur.Key, s.Old.Key, s.Pend.Key = make([]byte, 32), make([]byte, 32), make([]byte, 32)
	u := of(5, 0, 0, 0, 9)
	u.Old.Key, u.Pend.Key = []byte{}, []byte{}
	return append(out, r, s, u)
}

// number: is it the number of a generation? (Not as the program asks it.)
func number(no int) bool { return 0 < no && no < 1<<31 }

// right: is a ring right? As the document tells it. (Not as the program asks it.)
func right(r api.Ring) bool {
	for _, g := range []api.Gen{r.Cur, r.Old, r.Pend} {
		if g.No == 0 && len(g.Key) != 0 || g.No != 0 && (!number(g.No) || len(g.Key) != 32) {
			return false
		}
	}
	if r.Cur.No == 0 {
		return r.Old.No == 0 && r.Pend.No == 0 && r.Left == 0 && r.Top == 0
	}
	switch {
	case r.Old.No == 0 && r.Left != 0:
	case r.Old.No != 0 && (r.Old.No >= r.Cur.No || r.Left < 1 || r.Left > keep):
	case r.Pend.No != 0 && r.Pend.No <= r.Cur.No:
	case r.Top < r.Cur.No || r.Top < r.Pend.No || r.Top > gens:
	default:
		return true
	}
	return false
}

// alike: are two generations the same? (Not as the program asks it.)
func alike(a, b api.Gen) bool { return a.No == b.No && string(a.Key) == string(b.Key) }

// same: are two rings the same? (Not as the program asks it.)
func same(a, b api.Ring) bool {
	return alike(a.Cur, b.Cur) && alike(a.Old, b.Old) && alike(a.Pend, b.Pend) && a.Left == b.Left && a.Top == b.Top
}

// deep is a ring in memory of its own.
func deep(r api.Ring) api.Ring {
	for _, g := range []*api.Gen{&r.Cur, &r.Old, &r.Pend} {
		g.Key = bytes.Clone(g.Key)
	}
	return r
}

// changes are rings that differ from one in one part.
func changes(r api.Ring) []api.Ring {
	var out []api.Ring
	for i := range 3 {
		for j := range 6 {
			x := deep(r)
			g := []*api.Gen{&x.Cur, &x.Old, &x.Pend}[i]
			switch {
			case j == 0:
				g.No++
			case j == 1:
				g.No ^= 1 << 40
			case j == 2:
				g.Key = append(g.Key, 0)
			case len(g.Key) == 0:
				continue
			case j == 3:
				g.Key[0] ^= 1
			case j == 4:
				g.Key[len(g.Key)-1] ^= 128
			default:
				g.Key = g.Key[:len(g.Key)-1]
			}
			out = append(out, x)
		}
	}
	for _, d := range []int{1, -1, 1 << 40} {
		x, y := deep(r), deep(r)
		x.Left += d
		y.Top += d
		out = append(out, x, y)
	}
	return out
}

// made is what a call answered, where it answered OK.
func made(t *testing.T) func(r api.Ring, e api.Errno) api.Ring {
	return func(r api.Ring, e api.Errno) api.Ring {
		t.Helper()
		if e != api.OK || !ring.Right(r) || !right(r) {
			t.Fatalf("%v, %d", r, e)
		}
		return r
	}
}

// ticked is a ring behind some ticks.
func ticked(r api.Ring, n int) api.Ring {
	for range n {
		r = ring.Tick(r)
	}
	return r
}

// finds: has a ring this key of a number, and is it told?
func finds(r api.Ring, no int, want []byte) bool {
	k, is := ring.Find(r, no)
	return is && bytes.Equal(k, want)
}

// lacks: has a ring none of a number?
func lacks(r api.Ring, no int) bool {
	k, is := ring.Find(r, no)
	return !is && len(k) == 0
}

// P11.1

func TestRightRings(t *testing.T) {
	for _, r := range rights() {
		if !right(r) || !ring.Right(r) {
			t.Errorf("%v isn't right", r)
		}
	}
}

func TestRightAsksForAllOfIt(t *testing.T) {
	var l []api.Gen
	for _, no := range []int{-1, 0, 1, 2, 3, gens - 1, gens, gens + 1} {
		for _, n := range []int{0, 1, 31, 32, 33} {
			if n == 0 || n == 32 || no >= 0 && no <= 2 {
				l = append(l, api.Gen{No: no, Key: make([]byte, n)})
			}
		}
	}
	for _, cur := range l {
		for _, old := range l {
			for _, pend := range l {
				for _, left := range []int{-1, 0, 1, 16, 17} {
					for _, top := range []int{-1, 0, 1, 2, 3, gens - 1, gens, gens + 1} {
						r := api.Ring{Cur: cur, Old: old, Pend: pend, Left: left, Top: top}
						if ring.Right(r) != right(r) {
							t.Fatalf("Right(%v) is not %t", r, right(r))
						}
					}
				}
			}
		}
	}
}

func TestRightAsksForEachPart(t *testing.T) {
	wrong := []api.Ring{
		of(0, 0, 0, 0, 1), of(0, 0, 0, 0, -1), of(0, 0, 1, 0, 0), of(0, 0, 0, 1, 1), of(0, 1, 16, 2, 2), of(0, 1, 16, 0, 1), // none in use
		of(2, 0, 1, 0, 2), of(2, 0, -1, 0, 2), of(2, 0, 16, 0, 2), // ticks of none
		of(2, 1, 0, 0, 2), of(2, 1, -1, 0, 2), of(2, 1, 17, 0, 2), of(2, 1, math.MaxInt, 0, 2), of(2, 1, math.MinInt, 0, 2),
		of(2, 2, 1, 0, 2), of(2, 3, 1, 0, 3), of(gens, gens, 1, 0, gens), of(2, -1, 1, 0, 2), of(2, math.MinInt, 1, 0, 2),
		of(2, 0, 0, 2, 2), of(2, 0, 0, 1, 2), of(2, 0, 0, -1, 2), of(2, 0, 0, gens+1, gens+1), of(2, 0, 0, gens+1, gens), of(gens, 0, 0, gens, gens),
		of(2, 0, 0, 0, 1), of(2, 0, 0, 0, 0), of(2, 0, 0, 0, -2), of(2, 0, 0, 3, 2), of(2, 0, 0, 0, gens+1), of(2, 0, 0, 0, math.MaxInt), of(2, 0, 0, 0, math.MinInt),
		of(-1, 0, 0, 0, 1), of(-1, 0, 0, 0, -1), of(gens+1, 0, 0, 0, gens), of(gens+1, 0, 0, 0, gens+1), of(math.MaxInt, 0, 0, 0, gens), of(1<<32+1, 0, 0, 0, 1),
	}
	for _, k := range noKeys() {
		a, b, c := of(2, 1, 16, 3, 3), of(2, 1, 16, 3, 3), of(2, 1, 16, 3, 3)
		a.Cur.Key, b.Old.Key, c.Pend.Key = k, k, k
		wrong = append(wrong, a, b, c)
		if len(k) > 0 { // a key of none
			a, b, c, d := of(0, 0, 0, 0, 0), of(2, 0, 0, 0, 2), of(2, 0, 0, 0, 2), of(2, 0, 1, 0, 2)
			a.Cur.Key, b.Old.Key, c.Pend.Key, d.Old.Key = k, k, k, k
			wrong = append(wrong, a, b, c, d)
		}
	}
	bare := of(2, 0, 1, 0, 2)
	bare.Old.Key = key(1)
	empty := api.Ring{Old: api.Gen{Key: key(1)}}
	for i, r := range append(wrong, bare, empty) {
		if ring.Right(r) || right(r) {
			t.Errorf("%d: %v is right", i, r)
		}
	}
}

func TestSameAsksForAll(t *testing.T) {
	for _, r := range rights() {
		if !ring.Same(r, deep(r)) || !ring.Same(r, r) {
			t.Fatalf("%v isn't the same as itself", r)
		}
		for i, x := range changes(r) {
			if ring.Same(r, x) || ring.Same(x, r) || !ring.Same(x, deep(x)) {
				t.Fatalf("%v, %d: the same as %v", r, i, x)
			}
		}
	}
}

func TestSameOfAnyRings(t *testing.T) {
	l := append(rights(), of(-1, -2, -3, -4, -5), of(7, 7, 99, 7, math.MinInt), of(0, 0, 3, 0, 0), of(1, 2, 3, 4, 5), of(2, 1, 3, 4, 5), of(4, 2, 3, 1, 5), of(1, 4, 3, 2, 5))
	for _, a := range l {
		for _, b := range l {
			if ring.Same(a, b) != same(a, b) {
				t.Fatalf("Same(%v, %v) is not %t", a, b, same(a, b))
			}
		}
	}
	none := api.Ring{Cur: api.Gen{Key: []byte{}}, Old: api.Gen{Key: []byte{}}, Pend: api.Gen{Key: []byte{}}}
	if !ring.Same(none, api.Ring{}) || !ring.Same(api.Ring{}, none) || !ring.Right(none) {
		t.Error("a key without bytes counts for something")
	}
}

func TestNewHasOneKey(t *testing.T) {
	for _, k := range [][]byte{key(1), key(9), make([]byte, 32), bytes.Repeat([]byte{255}, 32)} {
		r := made(t)(ring.New(k))
		if !same(r, api.Ring{Cur: api.Gen{No: 1, Key: k}, Top: 1}) || !finds(r, 1, k) {
			t.Errorf("New(%x) = %v", k, r)
		}
	}
}

func TestNewAsksForAKey(t *testing.T) {
	for _, k := range noKeys() {
		if r, e := ring.New(k); e != api.ErrArg || !same(r, api.Ring{}) {
			t.Errorf("New(%x) = %v, %d", k, r, e)
		}
	}
}

func TestFindTellsEachOne(t *testing.T) {
	for _, r := range rights() {
		asked := append(noNumbers(), 1, 2, 3, 4, 500, 1000, gens-2, gens-1, gens)
		for _, g := range []api.Gen{r.Cur, r.Old, r.Pend} {
			asked = append(asked, g.No-1, g.No+1)
			if g.No != 0 && !finds(r, g.No, g.Key) {
				t.Fatalf("%v: %d isn't found", r, g.No)
			}
		}
		for _, no := range append(asked, r.Left, r.Top, r.Top+1) {
			has := no != 0 && (no == r.Cur.No || no == r.Old.No || no == r.Pend.No)
			if !has && !lacks(r, no) {
				t.Fatalf("%v: %d is found", r, no)
			}
		}
	}
}

// P11.2

func TestNextIsBehindTop(t *testing.T) {
	for _, r := range rights() {
		want, wantE := r.Top+1, api.OK
		switch r.Top {
		case 0:
			want, wantE = 0, api.ErrState
		case gens:
			want, wantE = 0, api.ErrSpent
		}
		if n, e := ring.Next(r); n != want || e != wantE {
			t.Fatalf("Next(%v) = %d, %d", r, n, e)
		}
	}
	if n, e := ring.Next(of(1, 0, 0, 0, gens-1)); n != gens || e != api.OK {
		t.Errorf("behind 2^31 - 2: %d, %d", n, e)
	}
	if n, e := ring.Next(of(1, 0, 0, 0, gens)); n != 0 || e != api.ErrSpent {
		t.Errorf("behind 2^31 - 1: %d, %d", n, e)
	}
}

func TestNextNeverHad(t *testing.T) {
	r := made(t)(ring.New(key(1)))
	had := map[int]bool{1: true}
	for i := range 40 {
		n, e := ring.Next(r)
		if e != api.OK || had[n] {
			t.Fatalf("Next(%v) = %d, %d", r, n, e)
		}
		had[n] = true
		r = made(t)(ring.Offer(r, n, key(n)))
		switch i % 3 {
		case 0:
			r = ring.Withdraw(r)
		case 1:
			r = made(t)(ring.Turn(r))
		}
	}
}

// P11.3

func TestOfferOfEachRing(t *testing.T) {
	k := bytes.Repeat([]byte{0xee}, 32)
	for _, r := range rights() {
		asked := []int{1, 2, 3, 4, 999, gens - 1, gens}
		for _, no := range []int{r.Cur.No, r.Old.No, r.Pend.No, r.Top} {
			asked = append(asked, no-1, no, no+1)
		}
		for _, no := range asked {
			want, wantE := deep(r), api.OK
			switch {
			case !number(no):
				wantE = api.ErrArg
			case r.Cur.No == 0 || no <= r.Cur.No || no < r.Pend.No:
				wantE = api.ErrState
			default:
				want.Pend = api.Gen{No: no, Key: k}
				want.Top = max(r.Top, no)
			}
			x, e := ring.Offer(r, no, k)
			if e != wantE || !same(x, want) || !ring.Right(x) {
				t.Fatalf("Offer(%v, %d) = %v, %d", r, no, x, e)
			}
			if e == api.OK && (!finds(x, no, k) || !finds(x, r.Cur.No, r.Cur.Key)) {
				t.Fatalf("Offer(%v, %d): not found", r, no)
			}
		}
	}
}

func TestOfferAsksForKeyAndNumberFirst(t *testing.T) {
	for _, r := range rights() {
		for _, no := range append(noNumbers(), 1, 2, r.Cur.No, r.Cur.No+1, r.Pend.No, gens) {
			for _, k := range noKeys() {
				if x, e := ring.Offer(r, no, k); e != api.ErrArg || !same(x, r) {
					t.Fatalf("Offer(%v, %d, %x) = %v, %d", r, no, k, x, e)
				}
			}
		}
		for _, no := range noNumbers() {
			if x, e := ring.Offer(r, no, key(1)); e != api.ErrArg || !same(x, r) {
				t.Fatalf("Offer(%v, %d) = %v, %d", r, no, x, e)
			}
		}
	}
}

func TestOfferByHand(t *testing.T) {
	r := of(5, 4, 7, 8, 20)
	for no, want := range map[int]api.Errno{1: api.ErrState, 4: api.ErrState, 5: api.ErrState, 6: api.ErrState, 7: api.ErrState, 8: api.OK, 9: api.OK, 20: api.OK, 21: api.OK, gens: api.OK} {
		x, e := ring.Offer(r, no, key(99))
		if e != want || e != api.OK && !same(x, r) {
			t.Errorf("Offer of %d: %d", no, e)
		}
		if e == api.OK && !same(x, api.Ring{Cur: gen(5), Old: gen(4), Pend: api.Gen{No: no, Key: key(99)}, Left: 7, Top: max(20, no)}) {
			t.Errorf("Offer of %d: %v", no, x)
		}
	}
	for no, want := range map[int]api.Errno{5: api.ErrState, 6: api.OK, 7: api.OK, 20: api.OK} { // below Top, behind an offer that is withdrawn
		if x, e := ring.Offer(ring.Withdraw(r), no, key(99)); e != want || e == api.OK && (x.Top != 20 || x.Pend.No != no) {
			t.Errorf("Offer of %d: %v, %d", no, x, e)
		}
	}
}

func TestOfferOfTheSameNumberPutsItsKey(t *testing.T) {
	r := made(t)(ring.Offer(made(t)(ring.New(key(1))), 2, key(2)))
	x := made(t)(ring.Offer(r, 2, key(77)))
	if !finds(x, 2, key(77)) || !finds(r, 2, key(2)) || x.Top != 2 {
		t.Errorf("%v, then %v", r, x)
	}
}

func TestOfferToAnEmptyRing(t *testing.T) {
	for _, no := range []int{1, 2, gens} {
		if x, e := ring.Offer(api.Ring{}, no, key(1)); e != api.ErrState || !same(x, api.Ring{}) {
			t.Errorf("%d: %v, %d", no, x, e)
		}
	}
}

func TestWithdrawTakesTheOfferAlone(t *testing.T) {
	for _, r := range rights() {
		want := deep(r)
		want.Pend = api.Gen{}
		if x := ring.Withdraw(r); !same(x, want) || !ring.Right(x) || r.Pend.No != 0 && !lacks(x, r.Pend.No) {
			t.Fatalf("Withdraw(%v) = %v", r, x)
		}
	}
}

// P11.4

func TestTurnPutsTheOfferInUse(t *testing.T) {
	for _, r := range rights() {
		x, e := ring.Turn(r)
		if r.Pend.No == 0 {
			if e != api.ErrState || !same(x, r) {
				t.Fatalf("nothing is offered: Turn(%v) = %v, %d", r, x, e)
			}
			continue
		}
		want := deep(api.Ring{Cur: r.Pend, Old: r.Cur, Left: 16, Top: r.Top})
		if e != api.OK || !same(x, want) || !ring.Right(x) {
			t.Fatalf("Turn(%v) = %v, %d", r, x, e)
		}
		if r.Old.No != 0 && !lacks(x, r.Old.No) {
			t.Fatalf("Turn(%v): the one ahead of the one ahead is found", r)
		}
		if y, e := ring.Turn(x); e != api.ErrState || !same(y, x) {
			t.Fatalf("Turn(%v), twice: %v, %d", r, y, e)
		}
	}
}

func TestTickCountsDown(t *testing.T) {
	for _, r := range rights() {
		want := deep(r)
		want.Left = max(0, r.Left-1)
		if r.Left < 2 {
			want.Old = api.Gen{}
		}
		if x := ring.Tick(r); !same(x, want) || !ring.Right(x) {
			t.Fatalf("Tick(%v) = %v", r, x)
		}
	}
}

func TestTicksWithAllElseAsItWas(t *testing.T) {
	for left := 1; left <= 16; left++ {
		r := of(9, 7, left, 12, 15)
		for n := range 40 {
			want := of(9, 7, left-n, 12, 15)
			if n >= left {
				want = of(9, 0, 0, 12, 15)
			}
			if !same(r, want) || lacks(r, 7) != (n >= left) {
				t.Fatalf("%d ticks of %d: %v", n, left, r)
			}
			r = ring.Tick(r)
		}
	}
}

func TestExample(t *testing.T) {
	r := made(t)(ring.Turn(made(t)(ring.Offer(made(t)(ring.New(key(1))), 2, key(2)))))
	for n := range 16 {
		if x := ticked(r, n); !finds(x, 1, key(1)) || !finds(x, 2, key(2)) || x.Left != 16-n {
			t.Errorf("behind %d ticks: %v", n, x)
		}
	}
	for n := 16; n < 20; n++ {
		if x := ticked(r, n); !lacks(x, 1) || !finds(x, 2, key(2)) || !same(x, of(2, 0, 0, 0, 2)) {
			t.Errorf("behind %d ticks: %v", n, x)
		}
	}
}

// P11.5

// step does one thing with a ring, and with another one that is kept as the document tells it.
func step(t *testing.T, d *dice, r, kept api.Ring) (api.Ring, api.Ring) {
	t.Helper()
	was, k := deep(r), d.some()
	var x api.Ring
	e, want := api.OK, api.OK
	switch d.below(8) {
	case 0, 1:
		no := max(1, min(gens, kept.Cur.No-3+d.below(9)))
		if n, f := ring.Next(r); f == api.OK && d.below(2) == 0 {
			no = n
		}
		x, e = ring.Offer(r, no, k)
		if no <= kept.Cur.No || no < kept.Pend.No {
			want = api.ErrState
		} else {
			kept.Pend = api.Gen{No: no, Key: k}
			kept.Top = max(kept.Top, no)
		}
	case 2:
		x, e = ring.Turn(r)
		if kept.Pend.No == 0 {
			want = api.ErrState
		} else {
			kept = api.Ring{Cur: kept.Pend, Old: kept.Cur, Left: keep, Top: kept.Top}
		}
	case 3:
		x = ring.Withdraw(r)
		kept.Pend = api.Gen{}
	case 4:
		want = api.ErrArg
		x, e = ring.Offer(r, noNumbers()[d.below(len(noNumbers()))], k)
	case 5:
		want = api.ErrArg
		x, e = ring.Offer(r, kept.Cur.No+1, k[:d.below(32)])
	default:
		x = ring.Tick(r)
		if kept.Left--; kept.Left <= 0 {
			kept.Old, kept.Left = api.Gen{}, 0
		}
	}
	if e != want || !same(x, kept) || !same(r, was) {
		t.Fatalf("%v, then %v, %d, not %v, %d", was, x, e, kept, want)
	}
	return x, kept
}

func TestRingsStayRight(t *testing.T) {
	for seed := range 40 {
		d := dice(seed)
		r := made(t)(ring.New(d.some()))
		if seed%4 == 3 { // at the end of the numbers
			r = of(gens-20, 0, 0, 0, gens-20)
		}
		kept := deep(r)
		for range 1500 {
			r, kept = step(t, &d, r, kept)
			if !ring.Right(r) || !right(r) {
				t.Fatalf("seed %d: %v isn't right", seed, r)
			}
			if !finds(r, r.Cur.No, kept.Cur.Key) {
				t.Fatalf("seed %d: %v: the one in use isn't found", seed, r)
			}
		}
	}
}

func TestTheOneInUseIsFoundWhateverIsDone(t *testing.T) {
	for seed := range 60 {
		d := dice(seed)
		k := d.some()
		r := made(t)(ring.New(k))
		for ticks := 0; ticks <= keep+3; { // offered, withdrawn, refused and turned at nothing between its turn and the last tick
			switch d.below(5) {
			case 0:
				r, _ = ring.Offer(r, 1+d.below(5), d.some())
			case 1:
				r = ring.Withdraw(r)
			case 2:
				if r.Cur.No == 1 || r.Pend.No == 0 { // once
					r, _ = ring.Turn(r)
				}
			default:
				r = ring.Tick(r)
				if r.Cur.No != 1 {
					ticks++
				}
			}
			if ticks < keep && !finds(r, 1, k) || ticks >= keep && !lacks(r, 1) {
				t.Fatalf("seed %d, %d ticks behind its turn: %v", seed, ticks, r)
			}
		}
	}
}

func TestASecondTurnPutsTheFirstOneOut(t *testing.T) {
	r := made(t)(ring.New(key(1)))
	for no := 2; no < 9; no++ {
		r = ticked(made(t)(ring.Turn(made(t)(ring.Offer(r, no, key(no))))), 3)
		if !same(r, of(no, no-1, 13, 0, no)) || !finds(r, no-1, key(no-1)) || !lacks(r, no-2) {
			t.Fatalf("turned to %d: %v", no, r)
		}
	}
}

func TestANumberHasOneKey(t *testing.T) {
	for _, r := range rights() {
		for _, x := range []api.Ring{r, ring.Withdraw(r), ring.Tick(r)} {
			if x.Cur.No != 0 && (x.Cur.No == x.Old.No || x.Cur.No == x.Pend.No) || x.Old.No != 0 && x.Old.No == x.Pend.No {
				t.Fatalf("%v has a number twice", x)
			}
		}
	}
	r := made(t)(ring.Offer(made(t)(ring.New(key(1))), 2, key(2)))
	for i := range 5 { // another key of the same number, and none of the others is found then
		r = made(t)(ring.Offer(ring.Withdraw(r), 2, key(50+i)))
		if !finds(r, 2, key(50+i)) || r.Top != 2 {
			t.Fatalf("%v", r)
		}
	}
	if r = made(t)(ring.Turn(r)); !finds(r, 2, key(54)) || !lacks(ticked(r, 16), 1) {
		t.Fatalf("%v", r)
	}
}

// R1, R3 and R4

// anys are rings that aren't right, and some that are.
func anys() []api.Ring {
	out := rights()
	for _, r := range rights() {
		out = append(out, changes(r)...)
	}
	for _, n := range noNumbers() {
		out = append(out, of(n, 0, 0, 0, n), of(n, n, n, n, n), of(1, n, 1, n, 1), of(n, 1, n, 2, 9), of(2, 1, n, 3, n))
	}
	return out
}

func TestEachCallEndsWhateverItIsGiven(t *testing.T) {
	for _, r := range anys() {
		ring.Right(r)
		ring.Next(r)
		ring.Turn(r)
		ring.Withdraw(r)
		ring.Tick(r)
		ring.Same(r, api.Ring{})
		for _, no := range append(noNumbers(), 1, gens) {
			ring.Find(r, no)
			ring.Offer(r, no, key(1))
			ring.Offer(r, no, nil)
		}
	}
}

func TestWhatIsHandedInStays(t *testing.T) {
	for _, r := range rights() {
		was, k := deep(r), key(5)
		ring.Right(r)
		ring.Next(r)
		ring.Find(r, r.Cur.No)
		ring.Same(r, r)
		ring.New(k)
		l := []api.Ring{ring.Withdraw(r), ring.Tick(r)}
		x, _ := ring.Turn(r)
		y, _ := ring.Offer(r, r.Cur.No+1, k)
		z, _ := ring.Offer(r, gens, k)
		l = append(l, x, y, z)
		var kept []api.Ring
		for _, x := range l {
			kept = append(kept, deep(x))
		}
		for _, x := range l { // later calls on what came out
			u, _ := ring.Offer(x, gens, key(6))
			ring.Tick(u)
			ring.Turn(u)
			ring.Withdraw(u)
		}
		for i, x := range l {
			if !same(x, kept[i]) {
				t.Fatalf("%v: answer %d became %v", kept[i], i, x)
			}
		}
		if !same(r, was) || !bytes.Equal(k, key(5)) {
			t.Fatalf("%v became %v", was, r)
		}
	}
}

// scribble writes over all keys of a ring.
func scribble(r api.Ring) {
	for _, g := range []api.Gen{r.Cur, r.Old, r.Pend} {
		for i := range g.Key {
			g.Key[i] ^= 0x5a
		}
	}
}

func TestAnswersAreNewMemory(t *testing.T) {
	k := key(5)
	n := made(t)(ring.New(k))
	r := made(t)(ring.Offer(n, 2, k))
	f, _ := ring.Find(r, 2)
	scribble(api.Ring{Cur: api.Gen{Key: k}})
	if !finds(n, 1, key(5)) || !finds(r, 1, key(5)) || !finds(r, 2, key(5)) || !bytes.Equal(f, key(5)) {
		t.Fatal("who writes into a key that was handed in changes what came out")
	}
	scribble(api.Ring{Cur: api.Gen{Key: f}})
	if !finds(r, 2, key(5)) {
		t.Fatal("who writes into a key that was found changes the ring")
	}
	for _, r := range rights() {
		was := deep(r)
		t1, _ := ring.Turn(r)
		o1, _ := ring.Offer(r, r.Cur.No+1, key(5))
		o2, _ := ring.Offer(r, r.Cur.No+1, nil)
		for i, x := range []api.Ring{ring.Withdraw(r), ring.Tick(r), t1, o1, o2} {
			scribble(x)
			if !same(r, was) {
				t.Fatalf("who writes into answer %d changes %v", i, was)
			}
		}
	}
}

func TestTheSameIsAnsweredEachTime(t *testing.T) {
	for _, r := range rights() {
		for _, no := range []int{1, 2, r.Cur.No, r.Cur.No + 1, r.Pend.No, gens} {
			x, e := ring.Offer(r, no, key(5))
			if y, f := ring.Offer(deep(r), no, key(5)); !same(x, y) || e != f {
				t.Fatalf("Offer(%v, %d): %v, then %v", r, no, x, y)
			}
			k, a := ring.Find(r, no)
			if l, b := ring.Find(deep(r), no); !bytes.Equal(k, l) || a != b {
				t.Fatalf("Find(%v, %d): %x, then %x", r, no, k, l)
			}
		}
		x, e := ring.Turn(r)
		if y, f := ring.Turn(deep(r)); !same(x, y) || e != f {
			t.Fatalf("Turn(%v): %v, then %v", r, x, y)
		}
		if x, y := ring.Tick(r), ring.Tick(deep(r)); !same(x, y) {
			t.Fatalf("Tick(%v): %v, then %v", r, x, y)
		}
		if x, y := ring.Withdraw(r), ring.Withdraw(deep(r)); !same(x, y) {
			t.Fatalf("Withdraw(%v): %v, then %v", r, x, y)
		}
	}
}
