package ask_test

import (
	"bytes"
	"math"
	"slices"
	"testing"

	"yett/api"
	"yett/ask"
)

const (
	most  = 999999 // the greatest trace number
	ticks = 8      // that a question waits
	tries = 3      // that it is asked again
	long  = 900    // bytes that may be asked, at most
)

// codes are all of them.
func codes() []int { return []int{1, 2, 101, 201, 301} }

// dice tells numbers that look thrown, always the same ones from one seed.
type dice uint64

func (d *dice) below(n int) int {
	*d = *d*6364136223846793005 + 1442695040888963407
	return int(uint64(*d) >> 33 % uint64(n))
}

// some are bytes that look thrown.
func (d *dice) some(n int) []byte {
	out := make([]byte, n)
	for i := range out {
		out[i] = byte(d.below(256))
	}
	return out
}

// thrown is a right question that waits.
func (d *dice) thrown() api.Ask {
	return api.Ask{Code: codes()[d.below(5)], Stan: 1 + d.below(most), Due: 1 + d.below(ticks), Left: d.below(tries + 1), Body: d.some(1 + d.below(long))}
}

// wild are numbers far from all that counts; some are such ones where bits are lost.
func wild() []int {
	out := []int{math.MinInt, math.MinInt + 1, math.MinInt + 8, math.MaxInt, math.MaxInt - 1, -most, -1000000, -301, -101, -9, -8, -3, -2, -1}
	for _, far := range []int{8, 16, 31, 32, 53, 62} {
		for _, n := range []int{0, 1, 2, 3, 8, 101, 201, 301, most} {
			out = append(out, 1<<far+n, n-1<<far)
		}
	}
	return out
}

// numbers are small ones, those at the edges of what counts, and wild ones.
func numbers() []int {
	out := wild()
	for n := range 1100 {
		out = append(out, n)
	}
	for _, edge := range []int{10000, 65536, 99999, 100000, 500000, 999998, most, 1000000, 1000001, 2000000, 1 << 20, 1<<20 - 1} {
		out = append(out, edge)
	}
	return out
}

// number: is it a trace number? (Not as the program asks it.)
func number(n int) bool { return 0 < n && n < 1000000 }

// code: is it a code? (Not as the program asks it.)
func code(n int) bool { return slices.Contains(codes(), n) }

// same: are two questions the same? (Not as the program asks it.)
func same(a, b api.Ask) bool {
	return [4]int{a.Code, a.Stan, a.Due, a.Left} == [4]int{b.Code, b.Stan, b.Due, b.Left} && string(a.Body) == string(b.Body)
}

// nothing: is it no question?
func nothing(a api.Ask) bool { return same(a, api.Ask{}) }

// right: is a question right? As the document tells it. (Not as the program asks it.)
func right(a api.Ask) bool {
	switch {
	case nothing(a):
		return true
	case !code(a.Code) || !number(a.Stan):
		return false
	case a.Due <= 0 || a.Due > ticks || a.Left < 0 || a.Left > tries:
		return false
	}
	return len(a.Body) != 0 && len(a.Body) <= long
}

// behind is a right question behind a tick, and what the tick brings. (Not as the program finds it: by how many ticks it has left in all.)
func behind(a api.Ask) (api.Ask, bool, bool) {
	if nothing(a) {
		return api.Ask{}, false, false
	}
	all := a.Left*ticks + a.Due - 1
	if all == 0 {
		return api.Ask{}, false, true
	}
	b := a
	b.Left, b.Due = all/ticks, all%ticks
	if b.Due == 0 {
		b.Left, b.Due = b.Left-1, ticks
	}
	return b, a.Left > b.Left, false
}

// deep is a question in memory of its own.
func deep(a api.Ask) api.Ask {
	a.Body = bytes.Clone(a.Body)
	return a
}

// bodies are bytes that may be asked, of the least and the greatest count, and between.
func bodies() [][]byte {
	d := dice(15)
	return [][]byte{{0}, {255}, []byte("a"), []byte("ab"), make([]byte, 2), d.some(31), d.some(255), d.some(256), d.some(long - 1), d.some(long), make([]byte, long)}
}

// noBodies are bytes that may not be asked.
func noBodies() [][]byte {
	return [][]byte{nil, {}, make([]byte, 0, 40), make([]byte, long+1), make([]byte, long+2), make([]byte, 1024), make([]byte, 65536), make([]byte, 65537), make([]byte, 1<<20)}
}

// nones are no questions.
func nones() []api.Ask { return []api.Ask{{}, {Body: []byte{}}, {Body: make([]byte, 0, 9)}} }

// waiting are right questions that wait, with each code, each Due, each Left, and trace numbers and bodies at their edges.
func waiting() []api.Ask {
	var out []api.Ask
	l := bodies()
	for i, c := range codes() {
		for j, stan := range []int{1, 2, 12, 99999, most - 1, most} {
			for due := 1; due <= ticks; due++ {
				for left := 0; left <= tries; left++ {
					out = append(out, api.Ask{Code: c, Stan: stan, Due: due, Left: left, Body: l[(i+j+due+left)%len(l)]})
				}
			}
		}
	}
	return out
}

// rights are right questions: none, and such that wait.
func rights() []api.Ask { return append(nones(), waiting()...) }

// changes are questions that differ from one in one part.
func changes(a api.Ask) []api.Ask {
	var out []api.Ask
	for _, by := range []int{1, -1, 1 << 31, 1 << 40, math.MinInt} {
		w, x, y, z := deep(a), deep(a), deep(a), deep(a)
		w.Code += by
		x.Stan += by
		y.Due += by
		z.Left += by
		out = append(out, w, x, y, z)
	}
	longer, other := deep(a), deep(a)
	longer.Body = append(longer.Body, 0)
	out = append(out, longer)
	if n := len(a.Body); n > 0 {
		shorter, last := deep(a), deep(a)
		shorter.Body = shorter.Body[:n-1]
		other.Body[0] ^= 1
		last.Body[n-1] ^= 128
		out = append(out, shorter, other, last)
	}
	return out
}

// begun is a question, where Begin answers OK.
func begun(t *testing.T, code, stan int, body []byte) api.Ask {
	t.Helper()
	a, e := ask.Begin(code, stan, body)
	if e != api.OK || !right(a) || nothing(a) {
		t.Fatalf("Begin(%d, %d, %x) = %v, %d", code, stan, body, a, e)
	}
	return a
}

// P15.1

func TestStan(t *testing.T) {
	for _, n := range numbers() {
		want := 1
		if n == 0 || number(n) && n != most {
			want = n + 1
		}
		if s := ask.Stan(n); s != want {
			t.Errorf("Stan(%d) = %d", n, s)
		}
	}
}

func TestStanByHand(t *testing.T) {
	for _, x := range [][2]int{
		{0, 1}, {1, 2}, {2, 3}, {9, 10}, {65535, 65536}, {99999, 100000}, {999997, 999998}, {999998, 999999},
		{999999, 1}, {1000000, 1}, {1000001, 1}, {-1, 1}, {-2, 1}, {-999999, 1}, {math.MaxInt, 1}, {math.MinInt, 1},
	} {
		if s := ask.Stan(x[0]); s != x[1] {
			t.Errorf("Stan(%d) = %d", x[0], s)
		}
	}
}

func TestEachTraceNumberComesInItsTurn(t *testing.T) {
	n := 0
	for want := 1; want <= most; want++ {
		if n = ask.Stan(n); n != want {
			t.Fatalf("%d, not %d", n, want)
		}
	}
	if n = ask.Stan(n); n != 1 {
		t.Fatalf("behind the greatest one: %d", n)
	}
}

func TestKnown(t *testing.T) {
	many := 0
	for n := -1100; n <= 1100; n++ {
		if ask.Known(n) != code(n) {
			t.Errorf("Known(%d) is %t", n, ask.Known(n))
		}
		if ask.Known(n) {
			many++
		}
	}
	for _, n := range numbers() {
		if ask.Known(n) != code(n) {
			t.Errorf("Known(%d) is %t", n, ask.Known(n))
		}
	}
	if many != 5 {
		t.Errorf("%d codes", many)
	}
}

func TestKnownByHand(t *testing.T) {
	for _, n := range []int{api.SignOn, api.SignOff, api.NewKey, api.Cutover, api.Echo, 1, 2, 101, 201, 301} {
		if !ask.Known(n) {
			t.Errorf("%d is no code", n)
		}
	}
	for _, n := range []int{0, 3, -1, -2, 10, 100, 102, 200, 202, 300, 302, 401, 1001, 1<<32 + 1, 1<<32 + 301, math.MaxInt, math.MinInt} {
		if ask.Known(n) {
			t.Errorf("%d is a code", n)
		}
	}
}

func TestRightQuestions(t *testing.T) {
	for _, a := range rights() {
		if !right(a) || !ask.Right(a) {
			t.Fatalf("%v isn't right", a)
		}
	}
	d := dice(151)
	for range 2000 {
		if a := d.thrown(); !ask.Right(a) {
			t.Fatalf("%v isn't right", a)
		}
	}
}

func TestRightAsksForAllOfIt(t *testing.T) {
	many := 0
	for _, c := range []int{-1, 0, 1, 2, 3, 100, 101, 102, 201, 301, 302} {
		for _, stan := range []int{-1, 0, 1, 2, most, most + 1} {
			for due := -1; due <= ticks+2; due++ {
				for left := -2; left <= tries+2; left++ {
					for _, n := range []int{0, 1, 2, long, long + 1} {
						a := api.Ask{Code: c, Stan: stan, Due: due, Left: left, Body: make([]byte, n)}
						if ask.Right(a) != right(a) {
							t.Fatalf("Right(%d, %d, %d, %d, %d bytes) is %t", c, stan, due, left, n, ask.Right(a))
						}
						if right(a) {
							many++
						}
					}
				}
			}
		}
	}
	if want := 5*3*ticks*(tries+1)*3 + 1; many != want {
		t.Fatalf("%d right ones, not %d", many, want)
	}
}

func TestRightAsksForEachPart(t *testing.T) {
	base := api.Ask{Code: api.Echo, Stan: 7, Due: 4, Left: 2, Body: []byte("abc")}
	for _, n := range numbers() {
		c, s, u, l := base, base, base, base
		c.Code, s.Stan, u.Due, l.Left = n, n, n, n
		for i, x := range []struct {
			a    api.Ask
			want bool
		}{
			{c, code(n)},
			{s, n >= 1 && n <= 999999},
			{u, n >= 1 && n <= 8},
			{l, n >= 0 && n <= 3},
		} {
			if ask.Right(x.a) != x.want {
				t.Errorf("part %d is %d: Right is not %t", i, n, x.want)
			}
		}
	}
	for n := range 1100 {
		base.Body = make([]byte, n)
		if ask.Right(base) != (n >= 1 && n <= 900) {
			t.Errorf("%d bytes: Right is %t", n, ask.Right(base))
		}
	}
	for _, b := range noBodies() {
		base.Body = b
		if ask.Right(base) {
			t.Errorf("%d bytes: right", len(b))
		}
	}
}

func TestNoQuestionHasAllNought(t *testing.T) {
	for _, a := range nones() {
		if !ask.Right(a) || !ask.Same(a, api.Ask{}) || !ask.Same(api.Ask{}, a) {
			t.Errorf("%v isn't none", a)
		}
		for _, x := range changes(a) {
			if ask.Right(x) || ask.Same(x, a) {
				t.Errorf("%v is right", x)
			}
		}
	}
	for _, a := range []api.Ask{{Due: 8, Left: 3}, {Due: 1}, {Left: 1}, {Stan: 1}, {Body: []byte{0}}, {Code: 1}, {Stan: 1, Due: 8, Left: 3, Body: []byte("a")}} {
		if ask.Right(a) {
			t.Errorf("%v is right", a)
		}
	}
}

func TestSameAsksForAll(t *testing.T) {
	for _, a := range rights() {
		if !ask.Same(a, a) || !ask.Same(a, deep(a)) || !ask.Same(deep(a), a) {
			t.Fatalf("%v isn't the same as itself", a)
		}
		for i, x := range changes(a) {
			if ask.Same(a, x) || ask.Same(x, a) || !ask.Same(x, deep(x)) {
				t.Fatalf("%v, %d: the same as %v", a, i, x)
			}
		}
	}
}

func TestSameOfAnyQuestions(t *testing.T) {
	l := nones()
	for _, n := range []int{0, 1, 2, -1, math.MaxInt, math.MinInt} {
		l = append(l, api.Ask{Code: n}, api.Ask{Stan: n}, api.Ask{Due: n}, api.Ask{Left: n}, api.Ask{Code: n, Stan: 1, Due: 2, Left: 3}, api.Ask{Code: 3, Stan: 2, Due: 1, Left: n, Body: []byte("x")})
	}
	for _, b := range append(bodies(), noBodies()...) {
		l = append(l, api.Ask{Body: b}, api.Ask{Code: 1, Stan: 1, Due: 1, Left: 1, Body: b})
	}
	for _, a := range l {
		for _, b := range l {
			if ask.Same(a, b) != same(a, b) {
				t.Fatalf("Same(%v, %v) is %t", a, b, ask.Same(a, b))
			}
		}
	}
}

func TestMatch(t *testing.T) {
	for _, a := range rights() {
		for _, c := range append(codes(), 0, 3, -1, a.Code+1, a.Code-1, -a.Code, a.Code+1<<32, a.Stan) {
			for _, stan := range []int{a.Stan, a.Stan + 1, a.Stan - 1, -a.Stan, a.Stan + 1<<32, 0, 1, most, a.Code} {
				want := c == a.Code && stan == a.Stan && a.Code != 0
				if ask.Match(a, c, stan) != want {
					t.Fatalf("Match(%v, %d, %d) is not %t", a, c, stan, want)
				}
			}
		}
	}
}

func TestMatchByHand(t *testing.T) {
	for _, due := range []int{1, 8} { // however long it waits yet
		a := api.Ask{Code: api.NewKey, Stan: 12, Due: due, Left: due % 4, Body: []byte("body")}
		if !ask.Match(a, 101, 12) {
			t.Errorf("%v isn't a question of its code and trace number", a)
		}
		for _, x := range [][2]int{{101, 13}, {101, 11}, {201, 12}, {1, 12}, {0, 12}, {101, 0}, {12, 101}, {0, 0}, {-101, -12}} {
			if ask.Match(a, x[0], x[1]) {
				t.Errorf("%v matches %d and %d", a, x[0], x[1])
			}
		}
	}
}

func TestNoneMatchesNothing(t *testing.T) {
	for _, a := range nones() {
		for _, c := range append(codes(), 0, 3, -1, math.MinInt, math.MaxInt) {
			for _, stan := range []int{0, 1, 2, most, most + 1, -1, math.MinInt, math.MaxInt} {
				if ask.Match(a, c, stan) {
					t.Errorf("none matches %d and %d", c, stan)
				}
			}
		}
	}
}

// P15.2

func TestBegin(t *testing.T) {
	for _, c := range codes() {
		for _, stan := range []int{1, 2, 12, 65536, most - 1, most} {
			for _, b := range bodies() {
				a := begun(t, c, stan, b)
				if !same(a, api.Ask{Code: c, Stan: stan, Due: 8, Left: 3, Body: b}) || !ask.Right(a) || !ask.Match(a, c, stan) {
					t.Fatalf("Begin(%d, %d, %x) = %v", c, stan, b, a)
				}
			}
		}
	}
}

func TestBeginOfEachLength(t *testing.T) {
	d := dice(152)
	for n := range 1200 {
		b := d.some(n)
		a, e := ask.Begin(api.Echo, 5, b)
		if n >= 1 && n <= 900 {
			if e != api.OK || !same(a, api.Ask{Code: 301, Stan: 5, Due: 8, Left: 3, Body: b}) {
				t.Fatalf("%d bytes: %v, %d", n, a, e)
			}
		} else if e != api.ErrArg || !nothing(a) {
			t.Fatalf("%d bytes: %v, %d", n, a, e)
		}
	}
}

func TestBeginRefuses(t *testing.T) {
	refused := func(c, stan int, b []byte) {
		t.Helper()
		if a, e := ask.Begin(c, stan, b); e != api.ErrArg || !nothing(a) {
			t.Errorf("Begin(%d, %d, %d bytes) = %v, %d", c, stan, len(b), a, e)
		}
	}
	for _, n := range numbers() {
		if !code(n) {
			refused(n, 12, []byte("a"))
			refused(n, 0, []byte("a"))
			refused(n, 12, nil)
		}
		if !number(n) {
			refused(api.SignOn, n, []byte("a"))
			refused(3, n, []byte("a"))
			refused(api.SignOn, n, make([]byte, 901))
		}
	}
	for _, b := range noBodies() {
		for _, c := range append(codes(), 0, 3) {
			for _, stan := range []int{0, 1, most, most + 1} {
				refused(c, stan, b)
			}
		}
	}
}

func TestBeginTakesEachTraceNumber(t *testing.T) {
	for _, n := range numbers() {
		if number(n) {
			if a := begun(t, api.Cutover, n, []byte{9}); a.Stan != n {
				t.Errorf("%d became %d", n, a.Stan)
			}
		}
	}
}

// P15.3

func TestTick(t *testing.T) {
	check := func(a api.Ask) {
		t.Helper()
		want, r, g := behind(a)
		x, again, given := ask.Tick(a)
		if !same(x, want) || again != r || given != g || !ask.Right(x) {
			t.Fatalf("Tick(%v) = %v, %t, %t, not %v, %t, %t", a, x, again, given, want, r, g)
		}
	}
	for _, a := range rights() {
		check(a)
	}
	d := dice(153)
	for range 5000 {
		check(d.thrown())
	}
}

func TestTickByHand(t *testing.T) {
	for _, x := range []struct {
		due, left    int
		to, rest     int
		again, given bool
	}{
		{8, 3, 7, 3, false, false},
		{8, 0, 7, 0, false, false},
		{7, 1, 6, 1, false, false},
		{3, 2, 2, 2, false, false},
		{2, 3, 1, 3, false, false},
		{2, 0, 1, 0, false, false},
		{1, 3, 8, 2, true, false},
		{1, 2, 8, 1, true, false},
		{1, 1, 8, 0, true, false},
		{1, 0, 0, 0, false, true},
	} {
		for _, c := range codes() {
			a := api.Ask{Code: c, Stan: 44, Due: x.due, Left: x.left, Body: []byte("what")}
			want := api.Ask{Code: c, Stan: 44, Due: x.to, Left: x.rest, Body: []byte("what")}
			if x.given {
				want = api.Ask{}
			}
			if b, again, given := ask.Tick(a); !same(b, want) || again != x.again || given != x.given {
				t.Errorf("Tick(%v) = %v, %t, %t", a, b, again, given)
			}
		}
	}
}

func TestNoneStaysNone(t *testing.T) {
	for _, a := range nones() {
		for range 100 {
			x, again, given := ask.Tick(a)
			if !nothing(x) || again || given {
				t.Fatalf("Tick of none = %v, %t, %t", x, again, given)
			}
			a = x
		}
	}
}

// P15.4

func TestAQuestionWithoutAnAnswer(t *testing.T) {
	for i, c := range codes() {
		for _, b := range bodies() {
			a := begun(t, c, 1+i*200000, b)
			x := a
			for n := 1; n <= 100; n++ {
				y, again, given := ask.Tick(x)
				if again != (n == 8 || n == 16 || n == 24) || given != (n == 32) {
					t.Fatalf("%v: tick %d: %t, %t", a, n, again, given)
				}
				if n < 32 && !(ask.Match(y, a.Code, a.Stan) && bytes.Equal(y.Body, b)) {
					t.Fatalf("%v: behind %d ticks: %v", a, n, y)
				}
				if n >= 32 && !nothing(y) {
					t.Fatalf("%v: behind %d ticks: %v", a, n, y)
				}
				x = y
			}
		}
	}
}

func TestAQuestionIsGivenUpFromWhereverItStands(t *testing.T) {
	for _, a := range waiting() {
		x, n, many := a, 0, 0
		for given := false; !given; n++ {
			if n > 32 {
				t.Fatalf("%v waits", a)
			}
			var again bool
			x, again, given = ask.Tick(x)
			if again && (n+1)%8 != a.Due%8 {
				t.Fatalf("%v is asked again in tick %d", a, n+1)
			}
			if again {
				many++
			}
		}
		if many != a.Left || n != a.Left*8+a.Due || !nothing(x) {
			t.Fatalf("%v: asked again %d times, given up in tick %d", a, many, n)
		}
	}
}

// R1, R3 and R4

// anys are questions that aren't right, and some that are.
func anys() []api.Ask {
	out := rights()
	for _, a := range rights()[:60] {
		out = append(out, changes(a)...)
	}
	for _, n := range wild() {
		out = append(out, api.Ask{Code: n, Stan: n, Due: n, Left: n}, api.Ask{Code: 1, Stan: 1, Due: n, Left: 3, Body: []byte("a")}, api.Ask{Code: 1, Stan: 1, Due: 1, Left: n, Body: []byte("a")}, api.Ask{Due: n}, api.Ask{Left: n}, api.Ask{Due: 1, Left: n})
	}
	for _, b := range noBodies() {
		out = append(out, api.Ask{Code: 1, Stan: 1, Due: 1, Left: 1, Body: b}, api.Ask{Body: b})
	}
	return out
}

func TestEachCallEndsWhateverItIsGiven(t *testing.T) {
	for _, a := range anys() {
		ask.Right(a)
		ask.Match(a, a.Code, a.Stan)
		ask.Match(a, 0, math.MinInt)
		ask.Same(a, api.Ask{})
		ask.Begin(a.Code, a.Stan, a.Body)
		for range 40 {
			a, _, _ = ask.Tick(a)
		}
	}
}

// scratch writes over all the memory of a list, and that behind it, too.
func scratch(b []byte) {
	b = b[:cap(b)]
	for i := range b {
		b[i] ^= 0xff
	}
}

// roomy is a question whose body has room behind it, and all of that memory.
func roomy(a api.Ask) (api.Ask, []byte) {
	all := append(bytes.Clone(a.Body), bytes.Repeat([]byte{7}, 100)...)
	n := len(a.Body)
	a.Body = all[:n]
	return a, all
}

func TestWhatIsHandedInStays(t *testing.T) {
	for _, a := range rights() {
		in, all := roomy(a)
		was := bytes.Clone(all)
		ask.Right(in)
		ask.Match(in, in.Code, in.Stan)
		ask.Same(in, in)
		x, _ := ask.Begin(api.SignOn, 1, in.Body)
		y, _, _ := ask.Tick(in)
		kept := [2]api.Ask{deep(x), deep(y)}
		for range 40 { // later calls on what came out
			z, _, _ := ask.Tick(x)
			ask.Begin(api.SignOff, 2, z.Body)
			ask.Tick(y)
			ask.Tick(z)
		}
		if !bytes.Equal(all, was) || !same(in, a) {
			t.Fatalf("%v became %v", a, in)
		}
		if !same(x, kept[0]) || !same(y, kept[1]) {
			t.Fatalf("%v and %v became %v and %v", kept[0], kept[1], x, y)
		}
	}
}

func TestAnswersAreNewMemory(t *testing.T) {
	for _, b := range bodies() {
		in, all := roomy(api.Ask{Body: b})
		was := bytes.Clone(all)
		a := begun(t, api.Echo, 3, in.Body)
		scratch(all)
		if !bytes.Equal(a.Body, b) {
			t.Fatal("who writes into a body that was handed in changes the question")
		}
		scratch(all)
		scratch(a.Body)
		if !bytes.Equal(all, was) {
			t.Fatal("who writes into a question changes the body that was handed in")
		}
	}
	for _, a := range waiting() {
		in, all := roomy(a)
		was := bytes.Clone(all)
		x, _, _ := ask.Tick(in)
		y, _, _ := ask.Tick(in)
		kept := deep(y)
		scratch(x.Body)
		if !bytes.Equal(all, was) || !same(y, kept) {
			t.Fatalf("who writes into what Tick answers changes %v", a)
		}
		scratch(all)
		if !same(y, kept) {
			t.Fatalf("who writes into %v changes what Tick answered", a)
		}
	}
}

func TestAnswersHangOnArgumentsAlone(t *testing.T) {
	for _, a := range rights() {
		x, again, given := ask.Tick(a)
		ask.Tick(x)
		ask.Tick(api.Ask{Code: 1, Stan: 1, Due: 1, Body: []byte("a")})
		y, e := ask.Begin(a.Code, a.Stan, a.Body)
		ask.Begin(2, 3, []byte("b"))
		if z, r, g := ask.Tick(deep(a)); !same(x, z) || again != r || given != g {
			t.Fatalf("Tick(%v), twice: %v, %t, %t, and %v, %t, %t", a, x, again, given, z, r, g)
		}
		if z, f := ask.Begin(a.Code, a.Stan, deep(a).Body); !same(y, z) || e != f {
			t.Fatalf("Begin of %v, twice: %v, %d, and %v, %d", a, y, e, z, f)
		}
	}
}

func TestTicksOfOneQuestionStayApart(t *testing.T) {
	a := begun(t, api.Cutover, 9, []byte("day"))
	l := []api.Ask{a}
	for range 33 {
		x, _, _ := ask.Tick(l[len(l)-1])
		l = append(l, x)
	}
	for n, x := range l {
		want := api.Ask{Code: 201, Stan: 9, Due: 8 - n%8, Left: 3 - n/8, Body: []byte("day")}
		if n >= 32 {
			want = api.Ask{}
		}
		if !same(x, want) {
			t.Errorf("behind %d ticks: %v", n, x)
		}
	}
}
