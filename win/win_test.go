package win_test

import (
	"math"
	"slices"
	"testing"

	"yett/api"
	"yett/win"
)

const last = 4611686018427387904 // 2^62, the greatest number

// dice tells numbers that look thrown, always the same ones from one seed.
type dice uint64

func (d *dice) below(n int) int {
	*d = *d*6364136223846793005 + 1442695040888963407
	return int(uint64(*d) >> 33 % uint64(n))
}

// bit is 1, if the bit of n is 1. (Not as the program asks it.)
func bit(w api.Win, n int) uint64 { return w.Bits[n%1024/64] >> (n % 64) & 1 }

// with is a window with the bits of some numbers 1, whatever it told of them.
func with(w api.Win, l ...int) api.Win {
	for _, n := range l {
		w.Bits[n%1024/64] |= 1 << (n % 64)
	}
	return w
}

// without is a window with the bits of some numbers 0, whatever it told of them.
func without(w api.Win, l ...int) api.Win {
	for _, n := range l {
		w.Bits[n%1024/64] &= math.MaxUint64 - 1<<(n%64)
	}
	return w
}

// of is the window in which these numbers were taken, and no others, as the document tells it.
func of(l ...int) api.Win {
	if len(l) == 0 {
		return api.Win{}
	}
	w := api.Win{Top: slices.Max(l) + 1}
	for _, n := range l {
		if n >= w.Top-1024 {
			w = with(w, n)
		}
	}
	return w
}

// full is the window with this Top in which all numbers were taken.
func full(top int) api.Win {
	w := api.Win{Top: top}
	for n := max(0, top-1024); n < top; n++ {
		w = with(w, n)
	}
	return w
}

// thrown is a right window with this Top: of its numbers one of every so many was taken.
func thrown(d *dice, top, every int) api.Win {
	w := api.Win{Top: top}
	for n := max(0, top-1024); n < top; n++ {
		if n == top-1 || d.below(every) == 0 {
			w = with(w, n)
		}
	}
	return w
}

// may: may a number be taken? As the document tells it. (Not as the program asks it.)
func may(w api.Win, n int) bool {
	switch {
	case n < 0 || n > last:
		return false
	case n >= w.Top:
		return true
	case n < w.Top-1024:
		return false
	}
	return bit(w, n) == 0
}

// behind is a right window behind a number that may be taken, number by number. (Not as the program makes it.)
func behind(w api.Win, n int) api.Win {
	if n < w.Top {
		return with(w, n)
	}
	out := api.Win{Top: n + 1}
	for i := max(0, n-1023); i < n; i++ {
		if i < w.Top && bit(w, i) == 1 {
			out = with(out, i)
		}
	}
	return with(out, n)
}

// tops are Tops of right windows: small ones, those at the edges of a word and of the window, and great ones.
func tops() []int {
	return []int{0, 1, 2, 3, 63, 64, 65, 127, 128, 500, 960, 961, 1022, 1023, 1024, 1025, 1026, 1087, 1088, 2047, 2048, 2049, 3001, 1 << 31, 1<<32 + 77, last - 1024, last - 1, last, last + 1}
}

// noTops are Tops of no right window.
func noTops() []int {
	return []int{-1, -2, -64, -1023, -1024, -1025, -1 << 32, math.MinInt, math.MinInt + 1, math.MinInt + 1024, last + 2, last + 3, last + 1024, math.MaxInt - 1023, math.MaxInt - 1, math.MaxInt}
}

// noNumbers are none that may be taken.
func noNumbers() []int {
	return []int{-1, -2, -63, -64, -1023, -1024, -1025, -1 << 32, math.MinInt, math.MinInt + 1, last + 1, last + 2, last + 1024, math.MaxInt - 1, math.MaxInt}
}

// rights are right windows: of all Tops, with all numbers taken, with the greatest one alone, and thrown ones.
func rights() []api.Win {
	d := dice(10)
	var out []api.Win
	for _, top := range tops() {
		out = append(out, full(top), thrown(&d, top, 1<<30), thrown(&d, top, 2), thrown(&d, top, 2), thrown(&d, top, 9))
	}
	return out
}

// near are numbers about a window's edges, some far from these, and each edge of all.
func near(w api.Win) []int {
	out := []int{0, 1, 63, 64, 1023, 1024, 1 << 31, 1 << 40, last - 1024, last - 1023, last - 1, last}
	for _, edge := range []int{w.Top - 2048, w.Top - 1024, w.Top - 960, w.Top - 512, w.Top - 64, w.Top, w.Top + 64, w.Top + 960, w.Top + 1024, w.Top + 2048} {
		for n := edge - 2; n <= edge+2; n++ {
			if n >= 0 && n <= last {
				out = append(out, n)
			}
		}
	}
	return out
}

// refused: did Mark answer this error, and the window that it was given?
func refused(t *testing.T, w api.Win, n int, want api.Errno) {
	t.Helper()
	if x, e := win.Mark(w, n); e != want || x != w {
		t.Fatalf("Mark(%v, %d) = %v, %d, not %d", w, n, x, e, want)
	}
}

// marked is a window behind numbers that are all taken.
func marked(t *testing.T, w api.Win, l ...int) api.Win {
	t.Helper()
	for _, n := range l {
		x, e := win.Mark(w, n)
		if e != api.OK {
			t.Fatalf("Mark(%v, %d) = %d", w, n, e)
		}
		w = x
	}
	return w
}

// P10.1

func TestRightWindows(t *testing.T) {
	for _, w := range rights() {
		if !win.Right(w) {
			t.Errorf("%v isn't right", w)
		}
	}
	for top := range 1100 {
		if !win.Right(full(top)) {
			t.Errorf("all of the numbers below %d: not right", top)
		}
	}
}

func TestRightAsksForTop(t *testing.T) {
	for _, top := range noTops() {
		bare := api.Win{Top: top}
		all := full(1024)
		all.Top = top
		one := bare
		one.Bits[uint(top-1)%1024/64] = 1 << (uint(top-1) % 64) // that of Top - 1
		for i, w := range []api.Win{bare, all, one} {
			if win.Right(w) {
				t.Errorf("Top %d, window %d: right", top, i)
			}
		}
	}
}

func TestRightAsksForTheGreatestNumber(t *testing.T) {
	for _, w := range rights() {
		if w.Top == 0 {
			continue
		}
		if win.Right(without(w, w.Top-1)) || win.Right(api.Win{Top: w.Top}) {
			t.Errorf("%d wasn't taken, and is the greatest one: right", w.Top-1)
		}
	}
	for top := 1; top < 1100; top++ {
		if win.Right(without(full(top), top-1)) {
			t.Errorf("%d wasn't taken, and is the greatest one: right", top-1)
		}
	}
}

func TestRightAsksForPlacesOfNoNumber(t *testing.T) {
	for _, top := range []int{0, 1, 2, 62, 63, 64, 65, 66, 100, 511, 512, 513, 959, 960, 961, 1021, 1022, 1023, 1024, 1025, 1026, 2000, last, last + 1} {
		base := api.Win{Top: top}
		if top > 0 {
			base = with(base, top-1)
		}
		for p := range 1024 {
			if want := top >= 1024 || p < top; win.Right(with(base, p)) != want {
				t.Fatalf("Top %d, and bit %d: right is not %t", top, p, want)
			}
			if want := top >= 1024 || p < top; win.Right(with(full(top), p)) != want {
				t.Fatalf("all of the numbers below %d, and bit %d: right is not %t", top, p, want)
			}
		}
	}
	all := full(1024)
	for top := range 1024 {
		all.Top = top
		if win.Right(all) {
			t.Fatalf("Top %d, and all bits: right", top)
		}
	}
}

func TestFreshOfAnEmptyWindow(t *testing.T) {
	for _, n := range []int{0, 1, 2, 63, 64, 1023, 1024, 1025, 1 << 31, 1 << 32, last - 1, last} {
		if !win.Fresh(api.Win{}, n) {
			t.Errorf("none was taken: %d may not be", n)
		}
	}
}

func TestFreshOfEachNumberOfAWindow(t *testing.T) {
	for _, w := range rights() {
		for n := max(0, w.Top-1030); n < w.Top+1030 && n <= last; n++ {
			if win.Fresh(w, n) != may(w, n) {
				t.Fatalf("Fresh(%v, %d): not %t", w, n, may(w, n))
			}
		}
		for _, n := range near(w) {
			if win.Fresh(w, n) != may(w, n) {
				t.Fatalf("Fresh(%v, %d): not %t", w, n, may(w, n))
			}
		}
	}
}

func TestFreshBelowTheWindow(t *testing.T) {
	for _, top := range tops() {
		if top < 1024 {
			continue
		}
		w := of(top - 1) // all that is below the greatest one wasn't taken
		if !win.Fresh(w, top-2) || !win.Fresh(w, top-1023) || !win.Fresh(w, top-1024) {
			t.Errorf("Top %d: one of its numbers may not be taken", top)
		}
		for _, n := range []int{top - 1025, top - 1026, top - 1024 - 64, top - 2048, top - 2049, top / 2, 1, 0} {
			if n >= 0 && n < top-1024 && win.Fresh(w, n) {
				t.Errorf("Top %d: %d may be taken", top, n)
			}
		}
	}
}

func TestFreshOfNoNumber(t *testing.T) {
	for _, w := range rights() {
		for _, n := range noNumbers() {
			if win.Fresh(w, n) {
				t.Fatalf("Fresh(%v, %d)", w, n)
			}
		}
	}
}

// P10.2

func TestMarkTakesANumberOfTheWindow(t *testing.T) {
	for _, top := range tops() {
		w := of()
		if top > 0 {
			w = of(top - 1)
		}
		for n := max(0, top-1024); n < top-1; n++ {
			if x, e := win.Mark(w, n); x != with(w, n) || e != api.OK {
				t.Fatalf("Top %d: Mark of %d = %v, %d", top, n, x, e)
			}
			hole := without(full(top), n)
			if x, e := win.Mark(hole, n); x != full(top) || e != api.OK {
				t.Fatalf("Top %d, all but %d were taken: Mark of that = %v, %d", top, n, x, e)
			}
		}
	}
}

func TestMarkTakesANumberFromTopOn(t *testing.T) {
	for _, w := range rights() {
		for _, far := range []int{0, 1, 2, 3, 62, 63, 64, 65, 127, 128, 500, 960, 1021, 1022, 1023, 1024, 1025, 1026, 1087, 2047, 2048, 5000, 1 << 31, 1<<32 + 5, 1 << 61} {
			n := w.Top + far
			if n > last {
				continue
			}
			x, e := win.Mark(w, n)
			if x != behind(w, n) || e != api.OK || x.Top != n+1 {
				t.Fatalf("Mark(%v, %d) = %v, %d", w, n, x, e)
			}
		}
	}
}

func TestMarkLeavesOutWhatLiesBetween(t *testing.T) {
	for _, top := range []int{1, 64, 700, 1023, 1024, 1025, 5000, last - 3000} {
		w := full(top)
		for _, far := range []int{1, 2, 63, 64, 65, 323, 324, 1022, 1023, 1024, 1025, 2000} {
			n := top + far
			x := marked(t, w, n)
			for i := top; i < n; i++ {
				if win.Fresh(x, i) != (i >= n-1023) {
					t.Fatalf("all below %d were taken, and %d: Fresh of %d is %t", top, n, i, i < n-1023)
				}
			}
			for i := max(0, n-1100); i < top; i++ {
				if win.Fresh(x, i) {
					t.Fatalf("all below %d were taken, and %d: %d may be taken", top, n, i)
				}
			}
		}
	}
}

func TestMarkOfTheGreatestNumber(t *testing.T) {
	for _, w := range rights() {
		x := w
		if w.Top <= last {
			x = marked(t, w, last)
		}
		if x.Top != last+1 || !win.Right(x) {
			t.Fatalf("behind the greatest number: %v", x)
		}
		for _, n := range []int{last, last - 1024, last - 1025, 0} {
			refused(t, x, n, api.ErrOld)
		}
		refused(t, x, last+1, api.ErrArg)
	}
	if x := marked(t, api.Win{}, last); x != of(last) {
		t.Errorf("the greatest number alone: %v", x)
	}
}

func TestMarkOfNoNumber(t *testing.T) {
	for _, w := range rights() {
		for _, n := range noNumbers() {
			refused(t, w, n, api.ErrArg)
		}
	}
}

func TestMarkOfWhatWasTaken(t *testing.T) {
	for _, w := range rights() {
		if w.Top > 0 {
			refused(t, w, w.Top-1, api.ErrOld)
		}
		for n := max(0, w.Top-1200); n < w.Top; n++ {
			if !may(w, n) {
				refused(t, w, n, api.ErrOld)
			}
		}
		for _, n := range []int{w.Top - 1025, w.Top - 2048, w.Top - 2049, w.Top / 2, 0} {
			if n >= 0 && n < w.Top-1024 {
				refused(t, w, n, api.ErrOld)
			}
		}
	}
}

func TestMarkAnswersAsFreshDoes(t *testing.T) {
	for _, w := range rights() {
		for _, n := range append(near(w), noNumbers()...) {
			fresh := win.Fresh(w, n)
			x, e := win.Mark(w, n)
			if fresh != (e == api.OK) || !win.Right(x) || win.Fresh(x, n) {
				t.Fatalf("Mark(%v, %d) = %v, %d", w, n, x, e)
			}
		}
	}
}

// P10.3

func TestNoNumberIsTakenTwice(t *testing.T) {
	for seed := range 12 {
		d := dice(seed)
		taken := map[int]bool{}
		base := []int{0, 0, 1 << 40, last - 9000}[seed%4]
		jump := []int{2, 40, 700}[seed%3]
		var w api.Win
		greatest := -1
		for range 6000 {
			n := max(0, greatest) + d.below(jump) - d.below(1100)
			if greatest < 0 {
				n = base
			}
			n = max(0, min(last, n))
			want := api.OK
			if taken[n] || n <= greatest-1024 {
				want = api.ErrOld
			}
			x, e := win.Mark(w, n)
			if win.Fresh(w, n) != (want == api.OK) || e != want || !win.Right(x) || win.Fresh(x, n) {
				t.Fatalf("seed %d, %d behind %d: %d, not %d", seed, n, greatest, e, want)
			}
			if e == api.OK {
				taken[n] = true
				greatest = max(greatest, n)
			}
			if x.Top != greatest+1 {
				t.Fatalf("seed %d: Top is %d behind %d", seed, x.Top, greatest)
			}
			w = x
		}
		for n := max(0, greatest-1100); n <= greatest; n++ {
			if win.Fresh(w, n) != (!taken[n] && n > greatest-1024) {
				t.Fatalf("seed %d: Fresh of %d, behind %d, is %t", seed, n, greatest, win.Fresh(w, n))
			}
		}
	}
}

func TestEachNumberIsTakenInItsTurn(t *testing.T) {
	for _, base := range []int{0, 1, 1000, last - 4000} {
		var w api.Win
		for n := base; n <= base+4000; n++ {
			w = marked(t, w, n)
			refused(t, w, n, api.ErrOld)
			if w.Top != n+1 {
				t.Fatalf("behind %d: Top is %d", n, w.Top)
			}
		}
		if w != full(base+4001) {
			t.Fatalf("from %d on: %v", base, w)
		}
	}
}

func TestNumbersAreTakenFromTheGreatestDown(t *testing.T) {
	for _, high := range []int{0, 1, 63, 1022, 1023, 1024, 1500, last} {
		var w api.Win
		for n := high; n >= 0 && n > high-1024; n-- {
			w = marked(t, w, n)
		}
		if w != full(high+1) {
			t.Fatalf("from %d down: %v", high, w)
		}
		if high >= 1024 {
			refused(t, w, high-1024, api.ErrOld)
		}
	}
}

func TestOrderCountsNothingWithinTheWindow(t *testing.T) {
	d := dice(3)
	for range 200 {
		base := []int{0, 5, 1000, 1024, 1 << 50, last - 1023}[d.below(6)]
		var l []int
		for i := range 1024 {
			if d.below(20) == 0 {
				l = append(l, base+i)
			}
		}
		for i := range l { // in any order
			j := i + d.below(len(l)-i)
			l[i], l[j] = l[j], l[i]
		}
		if w := marked(t, api.Win{}, l...); w != of(l...) {
			t.Fatalf("behind %v: %v", l, w)
		}
	}
}

func TestExamples(t *testing.T) {
	w := marked(t, api.Win{}, 5, 3)
	if !win.Fresh(w, 4) || win.Fresh(w, 3) || win.Fresh(w, 5) || w != of(5, 3) {
		t.Errorf("behind 5 and 3: %v", w)
	}
	w = marked(t, api.Win{}, 2000)
	if !win.Fresh(w, 977) || win.Fresh(w, 976) || w != of(2000) {
		t.Errorf("behind 2000: %v", w)
	}
}

// R1, R3 and R4

func TestWindowsThatAreNotRightEnd(t *testing.T) {
	for _, top := range append(noTops(), tops()...) {
		for _, w := range []api.Win{{Top: top}, {Top: top, Bits: full(1024).Bits}, {Top: top, Bits: [16]uint64{7, 15: 1 << 63}}} {
			win.Right(w)
			for _, n := range append(append(noNumbers(), noTops()...), append(tops(), top-1, top, top+1, top-1024, top+1024)...) {
				win.Fresh(w, n)
				win.Mark(w, n)
			}
		}
	}
}

func TestAnswersHangOnArgumentsAlone(t *testing.T) {
	for _, w := range rights() {
		kept := w
		for _, n := range near(w) {
			x, e := win.Mark(w, n)
			win.Mark(x, n+1)
			y, f := win.Mark(w, n)
			if x != y || e != f || w != kept || win.Fresh(w, n) != (e == api.OK) || !win.Right(w) {
				t.Fatalf("Mark(%v, %d), twice: %v, %d, and %v, %d", w, n, x, e, y, f)
			}
		}
	}
}
