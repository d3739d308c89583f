package hub_test

import (
	"bytes"
	"math"
	"slices"
	"testing"

	"yett/api"
	"yett/frame"
	"yett/hub"
)

// dice tells numbers that look thrown, always the same ones from one seed.
type dice uint64

func (d *dice) below(n int) int {
	*d = *d*6364136223846793005 + 1442695040888963407
	return int(uint64(*d) >> 33 % uint64(n))
}

// some are n bytes that look thrown.
func (d *dice) some(n int) []byte {
	out := make([]byte, n)
	for i := range out {
		out[i] = byte(d.below(256))
	}
	return out
}

// ups are the connections whose bit is 1.
func ups(bits int) [4]bool {
	return [4]bool{bits&1 != 0, bits&2 != 0, bits&4 != 0, bits&8 != 0}
}

// count is how many connections are up.
func count(h api.Hub) int {
	n := 0
	for _, up := range h.Up {
		if up {
			n++
		}
	}
	return n
}

// none are numbers of no connection.
func none() []int {
	return []int{-1, 4, -2, 5, -4, 7, 8, -5, 16, 255, 256, -256, 1 << 31, 1 << 32, 1<<32 + 1, -1 << 32, math.MaxInt, math.MaxInt - 3, math.MinInt, math.MinInt + 1}
}

// waiting are right feeds that aren't empty.
func waiting() []api.Feed {
	return []api.Feed{
		{Buf: []byte{0}}, {Buf: []byte{255}}, {Buf: []byte{0, 1}}, {Buf: []byte{0, 3, 1, 2}, Bad: 1}, {Buf: append([]byte{4, 0}, make([]byte, 1023)...)},
		{Skip: 1}, {Skip: 65535, Bad: 9}, {Bad: 1}, {Bad: -1}, {Bad: math.MaxInt}, {Bad: math.MinInt},
	}
}

// spoilt are feeds that aren't right.
func spoilt() []api.Feed {
	return []api.Feed{
		{Skip: -1}, {Skip: 65536}, {Skip: math.MinInt}, {Skip: math.MaxInt}, {Skip: 1, Buf: []byte{0}},
		{Buf: []byte{0, 0}}, {Buf: []byte{4, 1}}, {Buf: []byte{0, 1, 7}}, {Buf: []byte{0, 1, 7, 0}}, {Buf: []byte{255, 255, 1}},
	}
}

// rights are right hubs: of any connections up, and each one next; feeds of those that are up wait for more.
func rights() []api.Hub {
	feeds := waiting()
	var out []api.Hub
	for bits := range 16 {
		for next := range 4 {
			bare := api.Hub{Up: ups(bits), Next: next}
			full := api.Hub{Up: ups(bits), Next: next, Life: [4]int{bits, -next, math.MaxInt, math.MinInt + bits}}
			for c, up := range full.Up {
				if up {
					full.Feed[c] = feeds[(bits+next+3*c)%len(feeds)]
				}
			}
			out = append(out, bare, full)
		}
	}
	return out
}

// wrongs are hubs that aren't right.
func wrongs() []api.Hub {
	var out []api.Hub
	for _, next := range none() {
		for bits := range 16 {
			out = append(out, api.Hub{Up: ups(bits), Next: next})
		}
	}
	for c := range 4 {
		for _, f := range waiting() {
			h := api.Hub{Up: ups(15 - 1<<c)}
			h.Feed[c] = f
			out = append(out, h)
		}
		for _, f := range spoilt() {
			for _, bits := range []int{0, 1 << c, 15 - 1<<c, 15} {
				h := api.Hub{Up: ups(bits), Next: c}
				h.Feed[c] = f
				out = append(out, h)
			}
		}
	}
	return out
}

// alike: are two feeds the same? (Not as the program asks it.)
func alike(a, b api.Feed) bool {
	return string(a.Buf) == string(b.Buf) && a.Skip == b.Skip && a.Bad == b.Bad
}

// same: are two hubs the same? (Not as the program asks it.)
func same(a, b api.Hub) bool {
	for c := range 4 {
		if a.Up[c] != b.Up[c] || a.Life[c] != b.Life[c] || !alike(a.Feed[c], b.Feed[c]) {
			return false
		}
	}
	return a.Next == b.Next
}

// deep is a copy of a hub, to hold it against later.
func deep(h api.Hub) api.Hub {
	for c := range h.Feed {
		h.Feed[c].Buf = bytes.Clone(h.Feed[c].Buf)
	}
	return h
}

// deeps is a copy of frames, to hold them against later.
func deeps(l [][]byte) [][]byte {
	var out [][]byte
	for _, b := range l {
		out = append(out, bytes.Clone(b))
	}
	return out
}

// equal: are two lists of frames the same?
func equal(a, b [][]byte) bool { return slices.EqualFunc(a, b, bytes.Equal) }

// raised is a hub with these connections up, each raised once.
func raised(t *testing.T, l ...int) api.Hub {
	t.Helper()
	var h api.Hub
	var e api.Errno
	for _, c := range l {
		if h, e = hub.Raise(h, c); e != api.OK {
			t.Fatalf("Raise of %d: %d", c, e)
		}
	}
	return h
}

// picks are the connections that so many picks tell, and the hub behind them.
func picks(t *testing.T, h api.Hub, n int) ([]int, api.Hub) {
	t.Helper()
	var out []int
	for range n {
		x, c, e := hub.Pick(h)
		if e != api.OK {
			t.Fatalf("Pick of %v, %d: %d", h.Up, h.Next, e)
		}
		out = append(out, c)
		h = x
	}
	return out, h
}

// P9.1

func TestRightHubs(t *testing.T) {
	for _, h := range rights() {
		if !hub.Right(h) {
			t.Errorf("%v isn't right", h)
		}
	}
	if !hub.Right(api.Hub{}) || !hub.Right(api.Hub{Feed: [4]api.Feed{{Buf: []byte{}}, {Buf: make([]byte, 0, 9)}}}) {
		t.Error("a hub of which nothing is up isn't right")
	}
}

func TestRightAsksForNext(t *testing.T) {
	for bits := range 16 {
		for next := range 4 {
			if !hub.Right(api.Hub{Up: ups(bits), Next: next}) {
				t.Errorf("%04b up, %d next: not right", bits, next)
			}
		}
		for _, next := range none() {
			if hub.Right(api.Hub{Up: ups(bits), Next: next}) {
				t.Errorf("%04b up, %d next: right", bits, next)
			}
		}
	}
}

func TestRightAsksForEachFeed(t *testing.T) {
	for c := range 4 {
		for bits := range 16 {
			up := bits>>c&1 == 1
			for _, f := range waiting() {
				h := api.Hub{Up: ups(bits)}
				h.Feed[c] = f
				if hub.Right(h) != up {
					t.Errorf("%04b up, on %d %v waits: right is not %t", bits, c, f, up)
				}
			}
			for _, f := range spoilt() {
				h := api.Hub{Up: ups(bits)}
				h.Feed[c] = f
				if hub.Right(h) {
					t.Errorf("%04b up, on %d %v waits: right", bits, c, f)
				}
			}
		}
	}
}

func TestRightOfAnyLife(t *testing.T) {
	for _, n := range []int{0, 1, -1, 1 << 40, math.MaxInt, math.MinInt} {
		for c := range 4 {
			for bits := range 16 {
				h := api.Hub{Up: ups(bits)}
				h.Life[c] = n
				if !hub.Right(h) {
					t.Errorf("%04b up, Life of %d is %d: not right", bits, c, n)
				}
			}
		}
	}
}

func TestSameAsksForAll(t *testing.T) {
	h := api.Hub{Up: ups(5), Life: [4]int{3, 4, 5, 6}, Next: 2}
	for c := range h.Feed {
		h.Feed[c] = api.Feed{Buf: []byte{0, 3, byte(c)}, Skip: c + 1, Bad: c + 7} // of any hubs, right or not
	}
	if !hub.Same(h, deep(h)) {
		t.Fatal("what is the same isn't")
	}
	for c := range 4 {
		for i, change := range []func(*api.Hub){
			func(x *api.Hub) { x.Up[c] = !x.Up[c] },
			func(x *api.Hub) { x.Life[c]++ },
			func(x *api.Hub) { x.Life[c] = -x.Life[c] },
			func(x *api.Hub) { x.Life[c] += 1 << 32 },
			func(x *api.Hub) { x.Feed[c].Buf[2]++ },
			func(x *api.Hub) { x.Feed[c].Buf = nil },
			func(x *api.Hub) { x.Feed[c].Buf = append(x.Feed[c].Buf, 0) },
			func(x *api.Hub) { x.Feed[c].Skip++ },
			func(x *api.Hub) { x.Feed[c].Bad-- },
			func(x *api.Hub) { x.Feed[c] = api.Feed{} },
			func(x *api.Hub) { x.Up[c], x.Up[(c+1)%4] = x.Up[(c+1)%4], x.Up[c] },
			func(x *api.Hub) { x.Feed[c], x.Feed[(c+1)%4] = x.Feed[(c+1)%4], x.Feed[c] },
			func(x *api.Hub) { x.Life[c], x.Life[(c+1)%4] = x.Life[(c+1)%4], x.Life[c] },
			func(x *api.Hub) { x.Next = []int{0, 1, 3, -2}[c] },
			func(x *api.Hub) { x.Next += 1 << (32 + c) },
		} {
			x := deep(h)
			change(&x)
			if hub.Same(h, x) || hub.Same(x, h) || !hub.Same(x, deep(x)) {
				t.Errorf("Same, of connection %d, change %d", c, i)
			}
		}
	}
	if !hub.Same(api.Hub{}, api.Hub{Feed: [4]api.Feed{{Buf: []byte{}}, {Buf: make([]byte, 0, 9)}}}) {
		t.Error("bytes that are none aren't the same")
	}
}

func TestSameOfAnyHubs(t *testing.T) {
	all := append(rights(), wrongs()...)
	for _, a := range all {
		for _, b := range all {
			if hub.Same(a, b) != same(a, b) {
				t.Fatalf("Same of %v and %v: not %t", a, b, same(a, b))
			}
		}
	}
}

func TestAnyAsksForOneThatIsUp(t *testing.T) {
	for _, h := range rights() {
		if hub.Any(h) != (count(h) > 0) {
			t.Errorf("%v up: any is not %t", h.Up, count(h) > 0)
		}
	}
	for next := range 4 { // that a connection was up once counts nothing
		if hub.Any(api.Hub{Life: [4]int{1, 2, 3, 4}, Next: next}) {
			t.Errorf("none up, %d next: one is", next)
		}
	}
}

// P9.2

func TestRaiseTurnsOneUp(t *testing.T) {
	for _, h := range rights() {
		for c := range 4 {
			want := deep(h)
			wantErr := api.ErrState
			if !h.Up[c] {
				want.Up[c] = true
				want.Life[c]++
				wantErr = api.OK
			}
			if x, e := hub.Raise(h, c); !same(x, want) || e != wantErr {
				t.Errorf("Raise of %v, %d = %v, %d", h, c, x, e)
			} else if !hub.Right(x) {
				t.Errorf("%v isn't right", x)
			}
		}
	}
}

func TestCutTurnsOneDown(t *testing.T) {
	for _, h := range rights() {
		for c := range 4 {
			want := deep(h)
			wantErr := api.ErrState
			if h.Up[c] {
				want.Up[c] = false
				want.Feed[c] = api.Feed{}
				wantErr = api.OK
			}
			if x, e := hub.Cut(h, c); !same(x, want) || e != wantErr {
				t.Errorf("Cut of %v, %d = %v, %d", h, c, x, e)
			} else if !hub.Right(x) {
				t.Errorf("%v isn't right", x)
			}
		}
	}
}

func TestCutLosesWhatWaits(t *testing.T) {
	for c := range 4 {
		for _, f := range waiting() {
			h := raised(t, 0, 1, 2, 3)
			for other := range 4 {
				h.Feed[other] = f
			}
			want := deep(h)
			want.Up[c] = false
			want.Feed[c] = api.Feed{}
			down, e := hub.Cut(h, c)
			if !same(down, want) || e != api.OK {
				t.Errorf("Cut of %d, where %v waits: %v, %d", c, f, down, e)
			}
			want.Up[c] = true
			want.Life[c] = 2
			if up, e := hub.Raise(down, c); !same(up, want) || e != api.OK {
				t.Errorf("Raise of %d behind that: %v, %d", c, up, e)
			}
		}
	}
}

func TestLifeCountsHowOften(t *testing.T) {
	for c := range 4 {
		var h api.Hub
		for i := range 20 {
			up, e := hub.Raise(h, c)
			if e != api.OK || up.Life[c] != i+1 {
				t.Fatalf("raised %d times: %v, %d", i+1, up, e)
			}
			if h, e = hub.Cut(up, c); e != api.OK || h.Life[c] != i+1 {
				t.Fatalf("and cut: %v, %d", h, e)
			}
		}
	}
}

func TestLifeGoesRound(t *testing.T) {
	for n, want := range map[int]int{math.MaxInt: math.MinInt, math.MaxInt - 1: math.MaxInt, math.MinInt: math.MinInt + 1, -1: 0, -2: -1, 1<<32 - 1: 1 << 32, 1<<31 - 1: 1 << 31} {
		for c := range 4 {
			var h, up api.Hub
			h.Life[c] = n
			up.Life[c] = want
			up.Up[c] = true
			if x, e := hub.Raise(h, c); !same(x, up) || e != api.OK {
				t.Errorf("Raise of %d, behind %d: %v, %d", c, n, x, e)
			}
		}
	}
}

func TestRaiseAndCutRefuseWhatIsNoConnection(t *testing.T) {
	for _, h := range rights() {
		for _, c := range none() {
			if x, e := hub.Raise(h, c); !same(x, h) || e != api.ErrArg {
				t.Errorf("Raise of %v, %d = %v, %d", h, c, x, e)
			}
			if x, e := hub.Cut(h, c); !same(x, h) || e != api.ErrArg {
				t.Errorf("Cut of %v, %d = %v, %d", h, c, x, e)
			}
		}
	}
}

func TestRaiseTwiceAndCutTwice(t *testing.T) {
	h := raised(t, 3)
	if x, e := hub.Raise(h, 3); !same(x, h) || e != api.ErrState {
		t.Errorf("raised twice: %v, %d", x, e)
	}
	h, _ = hub.Cut(h, 3)
	if x, e := hub.Cut(h, 3); !same(x, h) || e != api.ErrState {
		t.Errorf("cut twice: %v, %d", x, e)
	}
	if x, e := hub.Cut(api.Hub{}, 0); !same(x, api.Hub{}) || e != api.ErrState {
		t.Errorf("cut, and never raised: %v, %d", x, e)
	}
}

// P9.3

func TestPickOfTheExample(t *testing.T) {
	h := raised(t, 0, 2)
	if l, _ := picks(t, h, 3); !slices.Equal(l, []int{0, 2, 0}) {
		t.Errorf("0 and 2 up: %v", l)
	}
}

func TestPickGoesOnFromNext(t *testing.T) {
	for _, x := range []struct {
		up   []int
		next int
		want []int
	}{
		{[]int{0, 1, 2, 3}, 0, []int{0, 1, 2, 3, 0, 1, 2, 3, 0}},
		{[]int{0, 1, 2, 3}, 3, []int{3, 0, 1, 2, 3, 0}},
		{[]int{0, 1, 2, 3}, 2, []int{2, 3, 0, 1, 2}},
		{[]int{0}, 0, []int{0, 0, 0}}, {[]int{0}, 1, []int{0, 0}}, {[]int{0}, 3, []int{0, 0}},
		{[]int{3}, 0, []int{3, 3, 3}}, {[]int{3}, 3, []int{3, 3}}, {[]int{2}, 3, []int{2, 2}},
		{[]int{1, 3}, 0, []int{1, 3, 1}}, {[]int{1, 3}, 1, []int{1, 3}}, {[]int{1, 3}, 2, []int{3, 1, 3}}, {[]int{1, 3}, 3, []int{3, 1}},
		{[]int{0, 1, 3}, 2, []int{3, 0, 1, 3, 0}}, {[]int{1, 2}, 3, []int{1, 2, 1}},
	} {
		h := raised(t, x.up...)
		h.Next = x.next
		if l, _ := picks(t, h, len(x.want)); !slices.Equal(l, x.want) {
			t.Errorf("%v up, from %d on: %v, not %v", x.up, x.next, l, x.want)
		}
	}
}

func TestPickChangesNextAlone(t *testing.T) {
	round := []int{0, 1, 2, 3, 0, 1, 2, 3}
	for _, h := range rights() {
		want, wantConn, wantErr := deep(h), 0, api.ErrDown
		for i, c := range round {
			if i >= h.Next && h.Up[c] {
				want.Next, wantConn, wantErr = round[c+1], c, api.OK
				break
			}
		}
		x, c, e := hub.Pick(h)
		if !same(x, want) || c != wantConn || e != wantErr {
			t.Errorf("Pick of %v = %v, %d, %d", h, x, c, e)
		}
		if !hub.Right(x) {
			t.Errorf("%v isn't right", x)
		}
	}
}

func TestPickOfNone(t *testing.T) {
	for next := range 4 {
		h := api.Hub{Next: next, Life: [4]int{5, 6, 7, 8}}
		if x, c, e := hub.Pick(h); !same(x, h) || c != 0 || e != api.ErrDown {
			t.Errorf("from %d on: %v, %d, %d", next, x, c, e)
		}
	}
	h, _ := hub.Cut(raised(t, 1), 1)
	if x, c, e := hub.Pick(h); !same(x, h) || c != 0 || e != api.ErrDown {
		t.Errorf("what was up once: %v, %d, %d", x, c, e)
	}
}

// P9.4

func TestPushTellsFrames(t *testing.T) {
	for c := range 4 {
		h := raised(t, c)
		want := deep(h)
		want.Feed[c] = api.Feed{Buf: []byte{0, 2, 5}}
		x, l, e := hub.Push(h, c, []byte{0, 2, 5})
		if !same(x, want) || len(l) != 0 || e != api.OK {
			t.Errorf("the beginning of a frame: %v, %x, %d", x, l, e)
		}
		want.Feed[c] = api.Feed{Bad: 1, Buf: []byte{0}}
		x, l, e = hub.Push(x, c, []byte{6, 0, 1, 7, 0, 0, 0})
		if !same(x, want) || !equal(l, [][]byte{{5, 6}, {7}}) || e != api.OK {
			t.Errorf("its end, another one, one that is none, and a byte: %v, %x, %d", x, l, e)
		}
		want.Feed[c] = api.Feed{Bad: 1}
		x, l, e = hub.Push(x, c, append([]byte{255}, make([]byte, 255)...))
		if !same(x, want) || !equal(l, [][]byte{make([]byte, 255)}) || e != api.OK {
			t.Errorf("the rest of that: %v, %x, %d", x, l, e)
		}
		want.Feed[c] = api.Feed{Bad: 2, Skip: 1024}
		x, l, e = hub.Push(x, c, []byte{4, 1, 9})
		if !same(x, want) || len(l) != 0 || e != api.OK {
			t.Errorf("a frame that is too long: %v, %x, %d", x, l, e)
		}
	}
}

func TestPushIsTheFeedsOwn(t *testing.T) {
	d := dice(4)
	pieces := [][]byte{nil, {}, {0}, {0, 0}, {0, 1, 7}, {0, 1, 7, 0, 2, 8, 9, 0}, {4, 1}, {1}, d.some(3), d.some(70), d.some(3000), make([]byte, 65536)}
	for _, h := range rights() {
		for c := range 4 {
			for _, b := range pieces {
				want, wantErr := deep(h), api.ErrDown
				var frames [][]byte
				if h.Up[c] {
					want.Feed[c], frames = frame.Push(h.Feed[c], b)
					wantErr = api.OK
				}
				x, l, e := hub.Push(h, c, b)
				if !same(x, want) || !equal(l, frames) || e != wantErr {
					t.Fatalf("Push of %v, %d, %d bytes = %v, %x, %d", h, c, len(b), x, l, e)
				}
				if !hub.Right(x) {
					t.Fatalf("%v isn't right", x)
				}
			}
		}
	}
}

func TestPushRefuses(t *testing.T) {
	for _, h := range rights() {
		for _, b := range [][]byte{nil, {0}, {0, 1, 7}, {0, 0}} {
			for _, c := range none() {
				if x, l, e := hub.Push(h, c, b); !same(x, h) || len(l) != 0 || e != api.ErrArg {
					t.Errorf("Push of %v, %d, %x = %v, %x, %d", h, c, b, x, l, e)
				}
			}
		}
	}
	for c := range 4 {
		h := api.Hub{Up: ups(15 - 1<<c)}
		if x, l, e := hub.Push(h, c, []byte{0, 1, 7, 0, 0, 3}); !same(x, h) || len(l) != 0 || e != api.ErrDown {
			t.Errorf("Push on %d, that is down: %v, %x, %d", c, x, l, e)
		}
	}
}

// P9.5

func TestEachIsPickedOnceAheadOfAnyAgain(t *testing.T) {
	for _, h := range rights() {
		n := count(h)
		first, _ := picks(t, h, n)
		seen := [4]int{}
		for _, c := range first {
			seen[c]++
		}
		for c, up := range h.Up {
			if up && seen[c] != 1 || !up && seen[c] != 0 {
				t.Errorf("%v up, from %d on: %v", h.Up, h.Next, first)
			}
		}
		if n == 0 {
			continue
		}
		all, x := picks(t, h, 3*n)
		if !slices.Equal(all, slices.Repeat(first, 3)) || x.Up != h.Up || x.Life != h.Life {
			t.Errorf("%v up, from %d on: %v", h.Up, h.Next, all)
		}
	}
}

func TestWhatIsDownIsNeverPicked(t *testing.T) {
	d := dice(11)
	var h api.Hub
	var up [4]bool
	next, got := 0, [4]int{}
	for range 20000 {
		c := d.below(4)
		switch d.below(6) {
		case 0:
			h, _ = hub.Raise(h, c)
			up[c] = true
		case 1:
			h, _ = hub.Cut(h, c)
			up[c] = false
		case 2:
			h, _, _ = hub.Push(h, c, d.some(d.below(4)))
		default:
			x, c, e := hub.Pick(h)
			if up == [4]bool{} {
				if e != api.ErrDown || c != 0 || !same(x, h) {
					t.Fatalf("none up: %d, %d", c, e)
				}
				continue
			}
			for !up[next] {
				next = (next + 1) % 4
			}
			if e != api.OK || c != next {
				t.Fatalf("%v up: %d, %d, not %d", up, c, e, next)
			}
			next = (next + 1) % 4
			got[c]++
			h = x
		}
		if h.Up != up || !hub.Right(h) || hub.Any(h) != (up != [4]bool{}) {
			t.Fatalf("%v up: %v", up, h)
		}
	}
	if slices.Min(got[:]) < 500 {
		t.Errorf("picked: %v", got)
	}
}

func TestStreamsAreApart(t *testing.T) {
	d := dice(6)
	for range 100 {
		h := raised(t, 0, 1, 2, 3)
		var rest [4][]byte
		var alone [4]api.Feed
		var want, got [4][][]byte
		for c := range 4 {
			for range d.below(6) {
				if d.below(4) == 0 {
					rest[c] = append(rest[c], d.some(d.below(9))...)
				}
				b, _ := frame.Pack(d.some(1 + d.below(30)))
				rest[c] = append(rest[c], b...)
			}
			alone[c], want[c] = frame.Push(api.Feed{}, rest[c])
		}
		for slices.ContainsFunc(rest[:], func(b []byte) bool { return len(b) > 0 }) {
			c := d.below(4)
			n := min(d.below(12), len(rest[c]))
			x, l, e := hub.Push(h, c, rest[c][:n])
			if e != api.OK || x.Up != h.Up || x.Life != h.Life || x.Next != h.Next {
				t.Fatalf("behind %v: %v, %d", h, x, e)
			}
			for other := range 4 {
				if other != c && !alike(x.Feed[other], h.Feed[other]) {
					t.Fatalf("what comes on %d changes %d", c, other)
				}
			}
			h, rest[c], got[c] = x, rest[c][n:], append(got[c], l...)
		}
		for c := range 4 {
			if !alike(h.Feed[c], alone[c]) || !equal(got[c], want[c]) {
				t.Fatalf("on %d: %x, %v, not %x, %v", c, got[c], h.Feed[c], want[c], alone[c])
			}
		}
	}
}

// R1

func TestEachCallEndsWhateverItIsGiven(t *testing.T) {
	all := append(none(), 0, 1, 2, 3)
	for _, h := range wrongs() {
		for _, c := range all {
			hub.Raise(h, c)
			hub.Cut(h, c)
			hub.Push(h, c, []byte{0, 1, 7, 4})
		}
		hub.Any(h)
		hub.Pick(h)
		hub.Same(h, h)
	}
}

// R3 and R4

func TestWhatIsHandedInStays(t *testing.T) {
	room := bytes.Repeat([]byte{0xee}, 300)
	for _, given := range rights() {
		var bufs, kept [4][]byte
		for c := range 4 { // bytes of somebody else's, behind what waits
			bufs[c] = append(bytes.Clone(given.Feed[c].Buf), room...)
			kept[c] = bytes.Clone(bufs[c])
			given.Feed[c].Buf = bufs[c][:len(given.Feed[c].Buf)]
		}
		before := deep(given)
		in := append([]byte{1, 5, 0, 1, 7, 0, 4, 8}, room...)
		keptIn := bytes.Clone(in)
		for c := range 4 {
			x, l, _ := hub.Push(given, c, in[:8])
			for _, b := range l {
				clear(b)
				_ = append(b, room...)
			}
			hub.Push(x, c, in[2:9])
			x, _ = hub.Raise(given, c)
			hub.Push(x, c, in[:8])
			x, _ = hub.Cut(given, c)
			x, _ = hub.Raise(x, c)
			hub.Push(x, c, in[:8])
		}
		x, c, _ := hub.Pick(given)
		hub.Push(x, c, in[:8])
		hub.Right(given)
		hub.Any(given)
		hub.Same(given, x)
		if !same(given, before) || !bytes.Equal(in, keptIn) {
			t.Fatalf("what was handed in changed: %v, %x", given, in)
		}
		for c := range 4 {
			if !bytes.Equal(bufs[c], kept[c]) {
				t.Fatalf("what stands behind the bytes that wait on %d changed: %x", c, bufs[c])
			}
		}
	}
}

func TestAnswersAreApartFromTheBytesHandedIn(t *testing.T) {
	b := []byte{0, 2, 5, 6, 0, 4, 7}
	h, l, _ := hub.Push(raised(t, 2), 2, b)
	clear(b)
	if !equal(l, [][]byte{{5, 6}}) || !bytes.Equal(h.Feed[2].Buf, []byte{0, 4, 7}) {
		t.Errorf("what came out changed with what was handed in: %x, %x", l, h.Feed[2].Buf)
	}
}

func TestLaterCallsLeaveWhatCameOut(t *testing.T) {
	h, l, _ := hub.Push(raised(t, 0, 1), 1, []byte{0, 1, 7, 0, 4, 1})
	kept, keptFrames := deep(h), deeps(l)
	x, a, _ := hub.Push(h, 1, []byte{2}) // two hubs that part here
	y, b, _ := hub.Push(h, 1, []byte{9})
	one, two := deep(x), deep(y)
	_, c, _ := hub.Push(x, 1, []byte{3, 4, 0, 1, 1})
	_, d, _ := hub.Push(y, 1, []byte{8, 7, 0, 1, 2})
	hub.Cut(x, 1)
	hub.Pick(y)
	hub.Raise(h, 2)
	if len(a) != 0 || len(b) != 0 || !equal(c, [][]byte{{1, 2, 3, 4}, {1}}) || !equal(d, [][]byte{{1, 9, 8, 7}, {2}}) {
		t.Errorf("%x, %x, %x, %x", a, b, c, d)
	}
	if !same(h, kept) || !equal(l, keptFrames) || !same(x, one) || !same(y, two) {
		t.Errorf("later calls changed %v, %x, %v or %v", h, l, x, y)
	}
}

func TestTheSameIsAnsweredEachTime(t *testing.T) {
	for _, h := range rights() {
		for c := range 4 {
			b := []byte{1, 0, 1, 7, 0, 3, 2}
			x, l, e := hub.Push(h, c, b)
			y, m, f := hub.Push(deep(h), c, append(make([]byte, 0, 99), b...))
			if !same(x, y) || !equal(l, m) || e != f {
				t.Fatalf("Push of %v, %d: %v, then %v", h, c, x, y)
			}
			x, e = hub.Raise(h, c)
			if y, f := hub.Raise(deep(h), c); !same(x, y) || e != f {
				t.Fatalf("Raise of %v, %d: %v, then %v", h, c, x, y)
			}
			x, e = hub.Cut(h, c)
			if y, f := hub.Cut(deep(h), c); !same(x, y) || e != f {
				t.Fatalf("Cut of %v, %d: %v, then %v", h, c, x, y)
			}
		}
		x, c, e := hub.Pick(h)
		if y, d, f := hub.Pick(deep(h)); !same(x, y) || c != d || e != f {
			t.Fatalf("Pick of %v: %v, then %v", h, x, y)
		}
	}
}
