package prov_test

import (
	"bytes"
	"crypto/hmac"
	"crypto/sha256"
	"encoding/hex"
	"testing"

	"yett/api"
	"yett/mac"
	"yett/prov"
)

// several are n bytes, none of which is 00, and no two neighbours of which are the same.
func several(n int) []byte {
	out := make([]byte, n)
	for i := range out {
		out[i] = byte(37*i+i>>8) | 1
	}
	return out
}

// standard is the tag as Go's own library has it.
func standard(key, b []byte) []byte {
	h := hmac.New(sha256.New, key)
	h.Write(b)
	return h.Sum(nil)[:16]
}

// entry is what is told of a key and bytes in a Table.
func entry(key, b string) api.Entry { return api.Entry{Key: []byte(key), B: []byte(b)} }

// holds: are these entries just those, in order?
func holds(table []api.Entry, want ...api.Entry) bool {
	if len(table) != len(want) {
		return false
	}
	for i, e := range table {
		if !bytes.Equal(e.Key, want[i].Key) || !bytes.Equal(e.B, want[i].B) {
			return false
		}
	}
	return true
}

// deep is a provider that shares no memory with p.
func deep(p api.Prov) api.Prov {
	out := api.Prov{Ideal: p.Ideal, Forged: p.Forged}
	for _, e := range p.Table {
		out.Table = append(out.Table, api.Entry{Key: bytes.Clone(e.Key), B: bytes.Clone(e.B)})
	}
	return out
}

// unchanged: is p as it was, held without the package's own Same?
func unchanged(p, was api.Prov) bool {
	return p.Ideal == was.Ideal && p.Forged == was.Forged && holds(p.Table, was.Table...)
}

// all four providers, but for their Table.
func kinds(table ...api.Entry) []api.Prov {
	return []api.Prov{{Table: table}, {Ideal: true, Table: table}, {Forged: true, Table: table}, {Ideal: true, Forged: true, Table: table}}
}

// wrongs are rows that look like a tag, but aren't it.
func wrongs(tag []byte) [][]byte {
	out := [][]byte{nil, {}, make([]byte, 16), bytes.Repeat([]byte{0xff}, 16), append(bytes.Clone(tag), 0), append([]byte{0}, tag...), append(bytes.Clone(tag), tag...)}
	for n := range tag {
		out = append(out, tag[:n], tag[len(tag)-n:])
		for bit := range 8 {
			x := bytes.Clone(tag)
			x[n] ^= 1 << bit
			out = append(out, x)
		}
	}
	for n := 1; n < len(tag); n++ { // the right bytes in another order
		out = append(out, append(bytes.Clone(tag[n:]), tag[:n]...))
	}
	return out
}

// P4.1

func TestNewTaggedNothing(t *testing.T) {
	for _, ideal := range []bool{false, true} {
		p := prov.New(ideal)
		if p.Ideal != ideal || len(p.Table) != 0 || p.Forged {
			t.Errorf("New(%t) = %v", ideal, p)
		}
		if prov.Had(p, nil, nil) || prov.Had(p, []byte("key"), []byte("b")) {
			t.Errorf("New(%t) tagged something", ideal)
		}
	}
}

func TestHadAsksForBothRows(t *testing.T) {
	table := []api.Entry{entry("ab", "c"), entry("key", "bytes"), entry("", "x"), entry("y", ""), entry("key", "more"), entry("last", "bytes")}
	for _, p := range kinds(table...) {
		for _, e := range table { // the first place and the last one, too
			if !prov.Had(p, bytes.Clone(e.Key), bytes.Clone(e.B)) {
				t.Errorf("%q, %q wasn't tagged", e.Key, e.B)
			}
		}
		for _, e := range []api.Entry{
			entry("", ""), entry("a", "bc"), entry("abc", ""), entry("", "abc"), entry("c", "ab"), // what stands in both rows is the same, one behind the other
			entry("bytes", "key"), entry("x", ""), entry("", "y"), // turned round
			entry("key", "byte"), entry("key", "bytes "), entry("key", "bytes\x00"), entry("ke", "bytes"), entry("key\x00", "bytes"), entry("Key", "bytes"), entry("key", "bytez"), // nearly
			entry("ab", "bytes"), entry("last", "more"), entry("y", "x"), entry("key", ""), entry("key", "c"), // rows of two pairs
		} {
			if prov.Had(p, e.Key, e.B) {
				t.Errorf("%q, %q was tagged", e.Key, e.B)
			}
		}
	}
	for _, p := range kinds(api.Entry{}) {
		if !prov.Had(p, nil, nil) || !prov.Had(p, []byte{}, []byte{}) || prov.Had(p, []byte{0}, nil) || prov.Had(p, nil, []byte{0}) {
			t.Error("rows without a byte")
		}
	}
	for _, p := range kinds() {
		if prov.Had(p, nil, nil) {
			t.Error("an empty Table has a pair")
		}
	}
}

func TestHadOfALongTable(t *testing.T) {
	var table []api.Entry
	for i := range 1000 {
		table = append(table, entry("key", string(several(i))))
	}
	for i := range 1000 {
		if p := (api.Prov{Table: table[:i]}); prov.Had(p, []byte("key"), several(i)) || i > 0 && !prov.Had(p, []byte("key"), several(i-1)) {
			t.Errorf("of %d pairs", i)
		}
	}
}

func TestSameAsksForAll(t *testing.T) {
	one, two, three := entry("k", "b"), entry("k", "c"), entry("l", "b")
	tables := [][]api.Entry{
		nil, {one}, {two}, {three}, {one, one}, {one, two}, {two, one}, {one, three}, {one, two, three}, {one, three, two}, {three, one, two},
		{entry("", "")}, {entry("", "kb")}, {entry("kb", "")}, {entry("b", "k")}, {entry("k\x00", "b")}, {entry("k", "b\x00")}, {entry("K", "b")}, {entry("k", "")}, {entry("", "b")}, {entry("", ""), one},
	}
	var all []api.Prov
	for _, table := range tables {
		all = append(all, kinds(table...)...)
	}
	for i, a := range all {
		for j, b := range all {
			if prov.Same(a, deep(b)) != (i == j) {
				t.Errorf("Same(%v, %v) isn't %t", a, b, i == j)
			}
		}
	}
	if !prov.Same(api.Prov{}, api.Prov{Table: []api.Entry{}}) || !prov.Same(api.Prov{Table: []api.Entry{{}}}, api.Prov{Table: []api.Entry{entry("", "")}}) {
		t.Error("rows without an element aren't the same")
	}
}

// P4.2

func TestTagIsAheadInTheTag(t *testing.T) {
	for _, n := range []int{0, 1, 16, 31, 32, 33, 63, 64, 65, 100} {
		for _, size := range []int{0, 1, 8, 55, 56, 64, 65, 900} {
			key, b := several(n), several(size + 3)[3:]
			for _, p := range kinds(entry("k", "b"), entry("l", "c")) {
				was := deep(p)
				q, tag := prov.Tag(p, key, b)
				if len(tag) != api.Tag || !bytes.Equal(tag, standard(key, b)) || !bytes.Equal(tag, mac.Tag(key, b)[:16]) {
					t.Fatalf("the tag of %d bytes under %d: %x", size, n, tag)
				}
				if !holds(q.Table, entry("k", "b"), entry("l", "c"), api.Entry{Key: key, B: b}) || q.Ideal != was.Ideal || q.Forged != was.Forged || !unchanged(p, was) {
					t.Fatalf("behind the tag of %d bytes under %d: %v", size, n, q)
				}
			}
		}
	}
	if _, tag := prov.Tag(prov.New(true), bytes.Repeat([]byte{11}, 20), []byte("Hi There")); hex.EncodeToString(tag) != "b0344c61d8db38535ca8afceaf0bf12b" {
		t.Errorf("the tag of the standard: %x", tag)
	}
}

func TestTagTellsAPairOnce(t *testing.T) {
	table := []api.Entry{entry("k", "b"), entry("", ""), entry("k", "c"), entry("l", "b"), entry("b", "k"), entry("kb", ""), entry("", "kb"), entry("k\x00", "b"), entry("k", "b\x00")}
	for _, p := range kinds() {
		was := deep(p)
		for i, e := range table {
			p, _ = prov.Tag(p, e.Key, e.B)
			was.Table = table[:i+1]
			if !unchanged(p, was) || !prov.Had(p, e.Key, e.B) {
				t.Fatalf("behind %d pairs: %v", i+1, p)
			}
			for _, again := range table[:i+1] {
				q, tag := prov.Tag(p, bytes.Clone(again.Key), bytes.Clone(again.B))
				if !unchanged(q, was) || !bytes.Equal(tag, standard(again.Key, again.B)) {
					t.Fatalf("%q, %q once more: %x, %v", again.Key, again.B, tag, q)
				}
			}
		}
	}
}

// P4.3

func TestCheckOfWhatWasTagged(t *testing.T) {
	table := []api.Entry{entry("k", "b"), entry("", ""), entry("l", "b"), entry("k", "c")}
	for _, p := range kinds(table...) {
		was := deep(p)
		for _, e := range table {
			tag := standard(e.Key, e.B)
			if q, is := prov.Check(p, e.Key, e.B, tag); !is || !unchanged(q, was) {
				t.Errorf("%q, %q, checked: %t, %v", e.Key, e.B, is, q)
			}
			for _, x := range append(wrongs(tag), mac.Tag(e.Key, e.B)) { // the whole tag is too long
				if q, is := prov.Check(p, e.Key, e.B, x); is || !unchanged(q, was) {
					t.Errorf("%q, %q with the tag %x: %t, %v", e.Key, e.B, x, is, q)
				}
			}
			for _, other := range table {
				x := standard(other.Key, other.B)
				if q, is := prov.Check(p, e.Key, e.B, x); is != bytes.Equal(x, tag) || !unchanged(q, was) {
					t.Errorf("%q, %q with the tag of %q, %q: %t, %v", e.Key, e.B, other.Key, other.B, is, q)
				}
			}
		}
	}
}

func TestCheckOfWhatWasNotTagged(t *testing.T) {
	for _, table := range [][]api.Entry{nil, {entry("k", "b"), entry("l", "c")}} {
		for _, p := range kinds(table...) {
			for _, e := range []api.Entry{entry("k", "c"), entry("l", "b"), entry("b", "k"), entry("", ""), entry("", "kb"), entry("kb", ""), entry("k", "b\x00")} {
				was := deep(p)
				tag := standard(e.Key, e.B)
				for _, x := range append(wrongs(tag), mac.Tag(e.Key, e.B)) {
					if q, is := prov.Check(p, e.Key, e.B, x); is || !unchanged(q, was) {
						t.Errorf("%q, %q with the tag %x: %t, %v", e.Key, e.B, x, is, q)
					}
				}
				q, is := prov.Check(p, e.Key, e.B, tag)
				if !unchanged(p, was) {
					t.Errorf("the provider that was handed in: %v", p)
				}
				was.Forged = true
				if is == p.Ideal || !unchanged(q, was) || prov.Had(q, e.Key, e.B) {
					t.Errorf("%q, %q, forged: %t, %v", e.Key, e.B, is, q)
				}
				if r, again := prov.Check(q, e.Key, e.B, tag); again != is || !unchanged(r, was) { // what is checked isn't tagged by that
					t.Errorf("%q, %q, forged once more: %t, %v", e.Key, e.B, again, r)
				}
			}
		}
	}
}

func TestForgedStays(t *testing.T) {
	for _, ideal := range []bool{false, true} {
		key, b := []byte("key"), []byte("forged")
		p, tag := prov.Tag(prov.New(ideal), key, []byte("b"))
		p, _ = prov.Check(p, key, b, standard(key, b))
		for i := range 4 {
			if !p.Forged || p.Ideal != ideal {
				t.Fatalf("behind %d calls more: %v", i, p)
			}
			var is bool
			switch i {
			case 0:
				if p, is = prov.Check(p, key, []byte("b"), tag); !is {
					t.Error("what was tagged isn't right any more")
				}
			case 1:
				if p, is = prov.Check(p, key, b, tag); is {
					t.Error("another one's tag is right")
				}
			case 2:
				p, _ = prov.Tag(p, key, b)
			case 3:
				if p, is = prov.Check(p, key, b, standard(key, b)); !is || !p.Forged {
					t.Error("what was forged, and tagged then, isn't right")
				}
			}
		}
	}
}

// A key with a byte 00 more has the same tags (P3.4), as two keys of more than 64 bytes and their digests have; but a pair with it is another one.
func TestOtherKeysWithTheSameTag(t *testing.T) {
	long := several(65)
	digest := sha256.Sum256(long)
	b := []byte("bytes")
	for _, x := range [][2][]byte{{[]byte("key"), []byte("key\x00")}, {[]byte("key\x00"), []byte("key")}, {nil, {0}}, {long, digest[:]}} {
		for _, ideal := range []bool{false, true} {
			p, tag := prov.Tag(prov.New(ideal), x[0], b)
			if prov.Had(p, x[1], b) {
				t.Errorf("%x was tagged for %x", x[1], x[0])
			}
			if q, is := prov.Check(p, x[1], b, tag); is == ideal || !q.Forged {
				t.Errorf("%x for %x, ideal %t: %t, %v", x[1], x[0], ideal, is, q)
			}
			q, other := prov.Tag(p, x[1], b)
			if len(q.Table) != 2 || !bytes.Equal(tag, other) {
				t.Errorf("%x behind %x: %x, %v", x[1], x[0], other, q)
			}
			if q, is := prov.Check(q, x[1], b, tag); !is || q.Forged {
				t.Errorf("%x, tagged behind %x: %t, %v", x[1], x[0], is, q)
			}
		}
	}
}

// P4.4

// dice tells numbers that look thrown, always the same ones from one seed.
type dice uint64

func (d *dice) below(n int) int {
	*d = *d*6364136223846793005 + 1442695040888963407
	return int(uint64(*d) >> 33 % uint64(n))
}

// step is one call at a provider: it answers the provider behind it, and what was said.
func step(p api.Prov, kind int, key, b, tag []byte) (api.Prov, string) {
	switch kind {
	case 0:
		q, out := prov.Tag(p, key, b)
		return q, hex.EncodeToString(out)
	case 1:
		if prov.Had(p, key, b) {
			return p, "had"
		}
		return p, "not had"
	}
	q, is := prov.Check(p, key, b, tag)
	if is {
		return q, "right"
	}
	return q, "wrong"
}

func TestRealAndIdealAnswerAlikeUpToAForgery(t *testing.T) {
	keys := [][]byte{nil, []byte("k"), []byte("k\x00"), several(32), several(65)}
	rows := [][]byte{nil, []byte("b"), []byte("bytes"), several(64)}
	forged := 0
	for seed := range 200 {
		d := dice(seed)
		plain, ideal := prov.New(false), prov.New(true)
		for range 60 {
			key, b := keys[d.below(len(keys))], rows[d.below(len(rows))]
			kind := d.below(3)
			tag := standard(keys[d.below(len(keys))], rows[d.below(len(rows))])
			if kind == 2 && prov.Had(plain, key, b) && d.below(2) == 0 {
				tag = standard(key, b)
			}
			had := prov.Had(plain, key, b)
			var one, other string
			plain, one = step(plain, kind, key, b, tag)
			ideal, other = step(ideal, kind, key, b, tag)
			if plain.Forged != ideal.Forged || !holds(plain.Table, ideal.Table...) {
				t.Fatalf("seed %d: %v, %v", seed, plain, ideal)
			}
			if plain.Forged {
				if one != "right" || other != "wrong" || had {
					t.Fatalf("seed %d: forged by %s, %s", seed, one, other)
				}
				forged++
				break
			}
			if one != other || one == "right" && !had {
				t.Fatalf("seed %d: %s, %s of a pair that was tagged: %t", seed, one, other, had)
			}
		}
	}
	if forged < 20 || forged > 180 { // else one of both sides of the promise was hardly looked at
		t.Errorf("%d of 200 runs were forged", forged)
	}
}

// R3 and R4

func TestHeirsOfOneProviderAreApart(t *testing.T) {
	room := make([]api.Entry, 2, 8) // with room behind it for the heirs' pairs
	room[0], room[1] = entry("k", "a"), entry("k", "b")
	p := api.Prov{Table: room}
	for i := range 3 { // behind a first round p is what Tag itself answered
		was := deep(p)
		one, _ := prov.Tag(p, []byte("k"), []byte{'1', byte(i)})
		kept := deep(one)
		other, _ := prov.Tag(p, []byte("k"), []byte{'2', byte(i)})
		next, _ := prov.Tag(other, []byte("k"), []byte{'3', byte(i)})
		prov.Check(p, []byte("k"), []byte("forged"), standard([]byte("k"), []byte("forged")))
		if !unchanged(p, was) || !unchanged(one, kept) || prov.Had(one, []byte("k"), []byte{'2', byte(i)}) || !prov.Had(next, []byte("k"), []byte{'2', byte(i)}) {
			t.Fatalf("%v, of which came %v and %v", p, one, other)
		}
		p = next
	}
	if rest := room[2:8]; !holds(rest, make([]api.Entry, 6)...) {
		t.Errorf("behind the Table that was handed in: %v", rest)
	}
}

func TestWhatIsHandedInIsNotWrittenInto(t *testing.T) {
	room := bytes.Repeat([]byte{0xee}, 300) // rows are pieces of it, with room behind
	kept := bytes.Clone(room)
	for _, n := range []int{0, 2, 16, 64, 65} {
		key, b, tag := room[:n:300], room[100:100+n:300], room[200:216:300]
		p, _ := prov.Tag(prov.New(true), key, b)
		prov.Tag(p, key, b)
		prov.Had(p, key, b)
		prov.Check(p, key, b, tag)
		prov.Check(p, key, b, standard(key, b))
		if !bytes.Equal(room, kept) {
			t.Fatalf("with %d bytes: %x", n, room)
		}
	}
}

func TestATableKeepsItsOwnRows(t *testing.T) {
	key, b := []byte("key"), []byte("bytes")
	p, tag := prov.Tag(prov.New(true), key, b)
	clear(key)
	clear(b)
	if !holds(p.Table, entry("key", "bytes")) {
		t.Errorf("the Table changed with what was handed in: %v", p)
	}
	kept := bytes.Clone(tag)
	clear(tag)
	_ = append(tag, 1, 2, 3)
	q, again := prov.Tag(p, []byte("key"), []byte("bytes"))
	if !bytes.Equal(again, kept) || !prov.Same(p, q) {
		t.Errorf("behind a tag that was written into: %x, %v", again, q)
	}
	if q, is := prov.Check(p, []byte("key"), []byte("bytes"), kept); !is || q.Forged {
		t.Errorf("behind a tag that was written into: %t, %v", is, q)
	}
}

func TestAnswersHangOnArgumentsAlone(t *testing.T) {
	p, _ := prov.Tag(prov.New(true), []byte("k"), []byte("b"))
	for range 3 { // what other providers are asked in between is nothing to p
		other, tag := prov.Tag(prov.New(false), []byte("k"), []byte("other"))
		prov.Check(other, []byte("l"), []byte("b"), standard([]byte("l"), []byte("b")))
		if prov.Had(p, []byte("k"), []byte("other")) {
			t.Error("a pair of another provider was tagged")
		}
		if q, is := prov.Check(p, []byte("k"), []byte("other"), tag); is || !q.Forged || p.Forged {
			t.Errorf("another provider's tag: %t, %v", is, q)
		}
		if q := prov.New(true); len(q.Table) != 0 || q.Forged {
			t.Errorf("New = %v", q)
		}
	}
}
