package phase_test

import (
	"math"
	"slices"
	"strings"
	"testing"

	"yett/api"
	"yett/phase"
)

// table is what follows on what, as the document lays it down.
const table = `
Off: VOn Asked, VHeard Told, VCrash Dark
Asked: VOn Asked, VAnswer Open, VHeard Told, VOff Off, VGiven Off, VCrash Dark
Told: VOn Asked, VHeard Told, VFirst Open, VOff Off, VCrash Dark
Open: VOn Asked, VHeard Told, VOff Closing, VGone Off, VKey Rekey, VDay Cutting, VGiven Off, VCrash Dark
Rekey: VOn Asked, VHeard Told, VOff Closing, VGone Off, VDone Open, VGiven Open, VCrash Dark
Cutting: VOn Asked, VHeard Told, VOff Closing, VGone Off, VDone Open, VGiven Open, VCrash Dark
Closing: VOn Asked, VHeard Told, VGone Off, VGiven Off, VCrash Dark
Failed: VCrash Dark
Dark: VBoot Off, VBlank Failed`

const (
	phases   = "Off Asked Told Open Rekey Cutting Closing Failed Dark"
	happens  = "VOn VAnswer VHeard VFirst VOff VGone VKey VDay VDone VGiven VCrash VBoot VBlank"
	followed = 44 // entries of the table
)

// dice tells numbers that look thrown, always the same ones from one seed.
type dice uint64

func (d *dice) below(n int) int {
	*d = *d*6364136223846793005 + 1442695040888963407
	return int(uint64(*d) >> 33 % uint64(n))
}

// some are n things that may happen, and now and then one that may not.
func (d *dice) some(n int) []int {
	out := make([]int, n)
	for i := range out {
		out[i] = d.below(13)
		if d.below(20) == 0 {
			out[i] = strange()[d.below(len(strange()))]
		}
	}
	return out
}

// pair is a phase, and what happens to it.
type pair struct{ p, v int }

// place is where a word stands in a list of words.
func place(t *testing.T, all, word string) int {
	at := slices.Index(strings.Fields(all), word)
	if at < 0 {
		t.Fatalf("no %q in %q", word, all)
	}
	return at
}

// follows is the table as numbers, those that the document tells of the words. (Not as the program holds it.)
func follows(t *testing.T) map[pair]int {
	out := map[pair]int{}
	for line := range strings.Lines(strings.TrimSpace(table)) {
		from, rest, _ := strings.Cut(strings.TrimSpace(line), ": ")
		for entry := range strings.SplitSeq(rest, ", ") {
			what, to, _ := strings.Cut(entry, " ")
			out[pair{place(t, phases, from), place(t, happens, what)}] = place(t, phases, to)
		}
	}
	if len(out) != followed {
		t.Fatalf("the table has %d entries", len(out))
	}
	return out
}

// run is what Run answers. (Not as the program finds it: one by one, by the table.)
func run(all map[pair]int, p int, l []int) (int, int) {
	if len(l) == 0 {
		return p, 0
	}
	q, is := all[pair{p, l[0]}]
	if !is {
		return run(all, p, l[1:])
	}
	q, n := run(all, q, l[1:])
	return q, n + 1
}

// strange are numbers that are neither phases nor happen; some are such ones where bits are lost.
func strange() []int {
	out := []int{-1, -2, -3, -8, -9, -13, 13, 14, 15, 16, 17, 31, 32, 64, 100, 127, 128, 255, 1000, math.MaxInt, math.MaxInt - 1, math.MinInt, math.MinInt + 1, math.MinInt + 8}
	for _, far := range []int{8, 16, 31, 32, 53, 62} {
		for n := range 13 {
			out = append(out, 1<<far+n, n-1<<far)
		}
	}
	return out
}

// numbers are all that are phases or happen, with their edges, and strange ones.
func numbers() []int {
	out := strange()
	for n := range 13 {
		out = append(out, n)
	}
	return out
}

// lists are all lists of up to n of the things that happen, and of one thing that doesn't.
func lists(n int) [][]int {
	out := [][]int{nil}
	for last := out; n > 0; n-- {
		var longer [][]int
		for _, l := range last {
			for v := -1; v < 13; v++ {
				longer = append(longer, append(slices.Clone(l), v))
			}
		}
		out = append(out, longer...)
		last = longer
	}
	return out
}

// P14.1

func TestNextIsAsTheTableLaysItDown(t *testing.T) {
	all, many := follows(t), 0
	for _, p := range numbers() {
		for _, v := range numbers() {
			want, yes := all[pair{p, v}]
			if !yes {
				want = p
			}
			q, is := phase.Next(p, v)
			if q != want || is != yes {
				t.Fatalf("Next(%d, %d) = %d, %v, not %d, %v", p, v, q, is, want, yes)
			}
			if is {
				many++
			}
		}
	}
	if many != followed {
		t.Fatalf("%d follow", many)
	}
}

func TestNextByHand(t *testing.T) {
	for _, x := range []struct {
		p, v, q int
		is      bool
	}{
		{api.Off, api.VOn, api.Asked, true},
		{api.Off, api.VHeard, api.Told, true},
		{api.Off, api.VCrash, api.Dark, true},
		{api.Off, api.VAnswer, api.Off, false},
		{api.Off, api.VOff, api.Off, false},
		{api.Off, api.VBoot, api.Off, false},
		{api.Asked, api.VOn, api.Asked, true}, // it follows, though the phase is the same behind it
		{api.Asked, api.VAnswer, api.Open, true},
		{api.Asked, api.VHeard, api.Told, true},
		{api.Asked, api.VOff, api.Off, true},
		{api.Asked, api.VGiven, api.Off, true},
		{api.Asked, api.VFirst, api.Asked, false},
		{api.Asked, api.VGone, api.Asked, false},
		{api.Told, api.VHeard, api.Told, true},
		{api.Told, api.VFirst, api.Open, true},
		{api.Told, api.VOff, api.Off, true},
		{api.Told, api.VAnswer, api.Told, false},
		{api.Told, api.VGone, api.Told, false},
		{api.Told, api.VGiven, api.Told, false},
		{api.Open, api.VOn, api.Asked, true},
		{api.Open, api.VHeard, api.Told, true},
		{api.Open, api.VOff, api.Closing, true},
		{api.Open, api.VGone, api.Off, true},
		{api.Open, api.VKey, api.Rekey, true},
		{api.Open, api.VDay, api.Cutting, true},
		{api.Open, api.VGiven, api.Off, true},
		{api.Open, api.VDone, api.Open, false},
		{api.Open, api.VAnswer, api.Open, false},
		{api.Open, api.VFirst, api.Open, false},
		{api.Rekey, api.VDone, api.Open, true},
		{api.Rekey, api.VGiven, api.Open, true},
		{api.Rekey, api.VOff, api.Closing, true},
		{api.Rekey, api.VKey, api.Rekey, false},
		{api.Rekey, api.VDay, api.Rekey, false},
		{api.Cutting, api.VDone, api.Open, true},
		{api.Cutting, api.VGiven, api.Open, true},
		{api.Cutting, api.VGone, api.Off, true},
		{api.Cutting, api.VKey, api.Cutting, false},
		{api.Cutting, api.VDay, api.Cutting, false},
		{api.Closing, api.VOn, api.Asked, true},
		{api.Closing, api.VHeard, api.Told, true},
		{api.Closing, api.VGone, api.Off, true},
		{api.Closing, api.VGiven, api.Off, true},
		{api.Closing, api.VOff, api.Closing, false},
		{api.Closing, api.VAnswer, api.Closing, false},
		{api.Failed, api.VCrash, api.Dark, true},
		{api.Failed, api.VOn, api.Failed, false},
		{api.Failed, api.VHeard, api.Failed, false},
		{api.Failed, api.VBoot, api.Failed, false},
		{api.Dark, api.VBoot, api.Off, true},
		{api.Dark, api.VBlank, api.Failed, true},
		{api.Dark, api.VCrash, api.Dark, false},
		{api.Dark, api.VOn, api.Dark, false},
		{-1, api.VOn, -1, false},
		{9, api.VOn, 9, false},
		{9, api.VCrash, 9, false},
		{api.Off, -1, api.Off, false},
		{api.Off, 13, api.Off, false},
		{math.MinInt, math.MaxInt, math.MinInt, false},
		{math.MaxInt, math.MinInt, math.MaxInt, false},
	} {
		if q, is := phase.Next(x.p, x.v); q != x.q || is != x.is {
			t.Errorf("Next(%d, %d) = %d, %v", x.p, x.v, q, is)
		}
	}
}

func TestRunIsNextOneByOne(t *testing.T) {
	for _, l := range lists(3) {
		for p := -1; p < 10; p++ {
			want, many := p, 0
			for _, v := range l {
				q, is := phase.Next(want, v)
				if is {
					many++
				}
				want = q
			}
			if q, n := phase.Run(p, l); q != want || n != many {
				t.Fatalf("Run(%d, %d) = %d, %d, not %d, %d", p, l, q, n, want, many)
			}
		}
	}
}

func TestRunIsAsTheTableLaysItDown(t *testing.T) {
	all, d := follows(t), dice(141)
	for range 2000 {
		p, l := d.below(9), d.some(d.below(60))
		want, many := run(all, p, l)
		if q, n := phase.Run(p, l); q != want || n != many {
			t.Fatalf("Run(%d, %d) = %d, %d, not %d, %d", p, l, q, n, want, many)
		}
	}
}

func TestRunOfTwoPieces(t *testing.T) {
	d := dice(142)
	for range 500 {
		p, l := d.below(9), d.some(1+d.below(30))
		cut := d.below(len(l) + 1)
		want, many := phase.Run(p, l)
		half, a := phase.Run(p, l[:cut])
		if q, b := phase.Run(half, l[cut:]); q != want || a+b != many {
			t.Fatalf("Run(%d, %d) is not that of its pieces at %d", p, l, cut)
		}
	}
}

func TestRunByHand(t *testing.T) {
	for _, x := range []struct {
		p    int
		l    []int
		q, n int
	}{
		{api.Off, nil, api.Off, 0},
		{api.Off, []int{}, api.Off, 0},
		{api.Dark, nil, api.Dark, 0},
		{9, nil, 9, 0},
		{-1, nil, -1, 0},
		{9, []int{api.VOn, api.VCrash, api.VBoot}, 9, 0},
		{math.MinInt, []int{api.VOn}, math.MinInt, 0},
		{api.Off, []int{-1, 13, math.MaxInt}, api.Off, 0},
		{api.Off, []int{api.VOn}, api.Asked, 1},
		{api.Off, []int{api.VAnswer, api.VOn}, api.Asked, 1}, // what is passed over doesn't count, nor comes again
		{api.Off, []int{api.VOn, api.VOn, api.VOn}, api.Asked, 3},
		{api.Off, []int{api.VHeard, api.VAnswer, api.VFirst}, api.Open, 2},
		{api.Open, []int{api.VKey, api.VDay, api.VDone, api.VDay, api.VDone}, api.Open, 4},
		{api.Open, []int{api.VDay, api.VGiven, api.VGiven}, api.Off, 3},
		{api.Open, []int{api.VOff, api.VKey, api.VGone, api.VGone}, api.Off, 2},
		{api.Open, []int{api.VCrash, api.VOn, api.VBlank, api.VOn, api.VBoot, api.VCrash, api.VBoot, api.VOn}, api.Asked, 5},
	} {
		if q, n := phase.Run(x.p, x.l); q != x.q || n != x.n {
			t.Errorf("Run(%d, %d) = %d, %d", x.p, x.l, q, n)
		}
	}
}

func TestALongRun(t *testing.T) {
	round := []int{api.VOn, api.VAnswer, api.VAnswer, api.VKey, api.VDone, api.VOff, api.VGone}
	if q, n := phase.Run(api.Off, slices.Repeat(round, 100000)); q != api.Off || n != 600000 {
		t.Fatalf("Run = %d, %d", q, n)
	}
}

// P14.2

func TestGateAndLinked(t *testing.T) {
	for _, p := range numbers() {
		gate := p == api.Open || p == api.Rekey || p == api.Cutting
		linked := gate || p == api.Told || p == api.Closing
		if phase.Gate(p) != gate || phase.Linked(p) != linked {
			t.Errorf("of %d Gate tells %v, Linked %v", p, phase.Gate(p), phase.Linked(p))
		}
	}
}

func TestGateAndLinkedByHand(t *testing.T) {
	for p, x := range [][2]bool{{false, false}, {false, false}, {false, true}, {true, true}, {true, true}, {true, true}, {false, true}, {false, false}, {false, false}, {false, false}} {
		if phase.Gate(p) != x[0] || phase.Linked(p) != x[1] {
			t.Errorf("of %d Gate tells %v, Linked %v", p, phase.Gate(p), phase.Linked(p))
		}
	}
}

func TestWhatLetsThroughHasASession(t *testing.T) {
	for p := -20; p < 40; p++ {
		if phase.Gate(p) && !phase.Linked(p) {
			t.Errorf("%d lets traffic through without a session", p)
		}
	}
}

// P14.3

func TestName(t *testing.T) {
	for p, want := range map[int]string{
		api.Off:     "off",
		api.Asked:   "asked",
		api.Told:    "told",
		api.Open:    "open",
		api.Rekey:   "rekey",
		api.Cutting: "cutting",
		api.Closing: "closing",
		api.Failed:  "failed",
		api.Dark:    "dark",
	} {
		if s := phase.Name(p); s != want {
			t.Errorf("Name(%d) = %q", p, s)
		}
	}
}

func TestNameOfNoPhase(t *testing.T) {
	for _, p := range append(strange(), 9, 10, 11, 12) {
		if s := phase.Name(p); s != "" {
			t.Errorf("Name(%d) = %q", p, s)
		}
	}
}

func TestNamesAreTheWordsOfTheDocument(t *testing.T) {
	for p, word := range strings.Fields(phases) {
		if s := phase.Name(p); s != strings.ToLower(word) {
			t.Errorf("Name(%d) = %q", p, s)
		}
	}
}

// P14.4

// shut are the phases that let nothing through.
func shut() []int {
	return []int{api.Off, api.Asked, api.Told, api.Closing, api.Failed, api.Dark}
}

// since tells whether an answer or a first message, that followed, came since the link was last asked for, heard of, left, or crashed, whether those followed or not.
func since(was bool, v int, is bool) bool {
	switch v {
	case api.VAnswer, api.VFirst:
		return was || is
	case api.VOn, api.VHeard, api.VOff, api.VGone, api.VCrash:
		return false
	}
	return was
}

func TestTrafficNeedsAnAnswerOrAFirstMessage(t *testing.T) {
	type state struct {
		p    int
		came bool
	}
	var work []state
	seen := map[state]bool{}
	for _, p := range shut() {
		work = append(work, state{p, false})
	}
	open := 0
	for len(work) > 0 {
		s := work[len(work)-1]
		work = work[:len(work)-1]
		if seen[s] {
			continue
		}
		seen[s] = true
		if phase.Gate(s.p) {
			open++
			if !s.came {
				t.Fatalf("%s lets traffic through, and nothing came", phase.Name(s.p))
			}
		}
		for v := -1; v < 14; v++ {
			q, is := phase.Next(s.p, v)
			work = append(work, state{q, since(s.came, v, is)})
		}
	}
	if open != 3 {
		t.Fatalf("%d phases that let traffic through were come to", open)
	}
}

func TestTrafficNeedsAnAnswerOrAFirstMessageInRuns(t *testing.T) {
	d := dice(144)
	for range 300 {
		p, came := shut()[d.below(6)], false
		for _, v := range d.some(100) {
			q, n := phase.Run(p, []int{v})
			came = since(came, v, n == 1)
			if phase.Gate(q) && !came {
				t.Fatalf("%d happens to %d: traffic is let through, and nothing came", v, p)
			}
			p = q
		}
	}
}

func TestWithoutAnAnswerOrAFirstMessageNothingIsLetThrough(t *testing.T) {
	for _, l := range lists(3) {
		if slices.Contains(l, api.VAnswer) || slices.Contains(l, api.VFirst) {
			continue
		}
		for _, p := range shut() {
			if q, _ := phase.Run(p, l); phase.Gate(q) {
				t.Fatalf("Run(%d, %d) lets traffic through", p, l)
			}
		}
	}
}

func TestEachOfTheFiveShutsTheGate(t *testing.T) {
	for _, p := range []int{api.Open, api.Rekey, api.Cutting} {
		for _, v := range []int{api.VOn, api.VHeard, api.VOff, api.VGone, api.VCrash} {
			if q, is := phase.Next(p, v); !is || phase.Gate(q) {
				t.Errorf("Next(%d, %d) = %d, %v", p, v, q, is)
			}
		}
	}
}

func TestOutOfTheDarkOnlyABootLeads(t *testing.T) {
	for _, v := range numbers() {
		boot := v == api.VBoot || v == api.VBlank // power again, whatever the store tells
		if q, is := phase.Next(api.Dark, v); is != boot || (q != api.Dark) != boot {
			t.Errorf("Next(Dark, %d) = %d, %v", v, q, is)
		}
		for p := range 8 {
			if q, _ := phase.Next(p, v); (q == api.Dark) != (v == api.VCrash) {
				t.Errorf("Next(%d, %d) = %d", p, v, q)
			}
		}
	}
}

func TestInTheDarkNothingElseFollows(t *testing.T) {
	d := dice(145)
	for range 200 {
		l := slices.DeleteFunc(d.some(50), func(v int) bool { return v == api.VBoot || v == api.VBlank })
		if q, n := phase.Run(api.Dark, l); q != api.Dark || n != 0 {
			t.Fatalf("Run(Dark, %d) = %d, %d", l, q, n)
		}
	}
}

// The examples of the chapter

func TestTheExamples(t *testing.T) {
	if q, n := phase.Run(api.Off, []int{api.VOn, api.VAnswer, api.VKey}); q != api.Rekey || n != 3 {
		t.Errorf("Run = %d, %d", q, n)
	}
	p := api.Off
	for _, v := range []int{api.VOn, api.VAnswer, api.VKey} {
		q, is := phase.Next(p, v)
		if !is {
			t.Errorf("Next(%d, %d) = %d, %v", p, v, q, is)
		}
		p = q
	}
	if p != api.Rekey {
		t.Errorf("it ends in %d", p)
	}
	if phase.Gate(api.Closing) {
		t.Error("Closing lets traffic through")
	}
}

// R1, R3 and R4

func TestEachCallEndsAtAnyNumbers(t *testing.T) {
	all := numbers()
	for _, p := range all {
		phase.Gate(p)
		phase.Linked(p)
		phase.Name(p)
		phase.Run(p, all)
	}
}

func TestWhatIsHandedInStays(t *testing.T) {
	d := dice(146)
	for range 300 {
		n := d.below(20)
		all := d.some(n + 10) // there is room behind the list
		was := slices.Clone(all)
		for p := -1; p < 10; p++ {
			phase.Run(p, all[:n])
		}
		if !slices.Equal(all, was) {
			t.Fatalf("%d became %d", was, all)
		}
	}
}

func TestWhatIsBehindTheListIsNotLookedAt(t *testing.T) {
	l := []int{api.VOn, api.VAnswer, api.VKey, api.VCrash}
	if q, n := phase.Run(api.Off, l[:2]); q != api.Open || n != 2 {
		t.Errorf("Run = %d, %d", q, n)
	}
}

func TestTheSameIsAnsweredEachTime(t *testing.T) {
	d := dice(147)
	for range 300 {
		p, l := d.below(9), d.some(30)
		q, n := phase.Run(p, l)
		phase.Run(d.below(9), d.some(10))
		phase.Next(d.below(9), d.below(13))
		if r, m := phase.Run(p, slices.Clone(l)); r != q || m != n {
			t.Fatalf("Run(%d, %d) = %d, %d, and %d, %d", p, l, q, n, r, m)
		}
	}
}
