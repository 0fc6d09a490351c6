package digest

import (
	"crypto/sha256"
	"encoding/binary"
	"strings"
	"testing"

	"pontoon/api"
)

// wanted: the digest by the library.
func wanted(domain byte, parts ...string) api.Digest {
	in := []byte{domain}
	for _, p := range parts {
		in = binary.BigEndian.AppendUint32(in, uint32(len(p)))
		in = append(in, p...)
	}
	return sha256.Sum256(in)
}

var someParts = [][]string{
	nil, {""}, {"", ""}, {"a"}, {"ab"}, {"a", "b"}, {"", "ab"}, {"ab", ""}, {"b", "a"},
	{"\x00\x00\x00\x01a"}, {"\x00"}, {"\x00\x00\x00\x00"}, {"\xff\xfe"}, {"漢"}, {"a", "", "b"},
	{strings.Repeat("a", 55)}, {strings.Repeat("a", 64)}, {strings.Repeat("b", 255)}, {strings.Repeat("b", 256)}, {strings.Repeat("c", 70000), "d"},
}

func TestDomains(t *testing.T) {
	for i, d := range []int{Secret, Public, Pair, Root, Message, Node, Claim, Call, Halt} {
		if d != i+1 {
			t.Errorf("domain %d is %d", i+1, d)
		}
	}
}

func TestOf(t *testing.T) {
	var none *Log
	l := New()
	for _, domain := range []byte{0, Secret, Halt, 10, 127, 128, 255} {
		for _, parts := range someParts {
			want := wanted(domain, parts...)
			// Twice, as the answer doesn't hang on what was noted.
			for range 2 {
				if got := l.Of(domain, parts...); got != want {
					t.Errorf("domain %d of %d parts: %x", domain, len(parts), got)
				}
			}
			if got := none.Of(domain, parts...); got != want {
				t.Errorf("nil log, domain %d of %d parts: %x", domain, len(parts), got)
			}
		}
	}
	if l.Of(1) != sha256.Sum256([]byte{1}) {
		t.Error("the example")
	}
}

func TestPartsArentChanged(t *testing.T) {
	parts := []string{"a", "b", "spare"}
	New().Of(1, parts[:2]...)
	if parts[0] != "a" || parts[1] != "b" || parts[2] != "spare" {
		t.Error(parts)
	}
}

func TestPartsArentKept(t *testing.T) {
	l := New()
	parts := []string{"a", "b"}
	d := l.Of(1, parts...)
	parts[0] = "c"
	m := New()
	m.Join(l)
	if m.Of(1, "a", "b") != d || m.Count() != 1 || l.Of(1, "a", "b") != d || l.Count() != 1 {
		t.Error("what was noted changed with the parts")
	}
}

func TestTwo(t *testing.T) {
	a, b := wanted(1), wanted(2)
	for _, log := range []*Log{nil, New()} {
		for _, domain := range []byte{0, Pair, Node, 255} {
			for _, pair := range [][2]api.Digest{{a, b}, {b, a}, {a, a}, {{}, {}}, {{}, {1}}} {
				if got := log.Two(domain, pair[0], pair[1]); got != wanted(domain, string(pair[0][:]), string(pair[1][:])) {
					t.Errorf("domain %d: %x", domain, got)
				}
			}
		}
	}
	l := New()
	d := l.Two(Node, a, b)
	if l.Count() != 1 || !l.Has(d) || l.Of(Node, string(a[:]), string(b[:])) != d || l.Count() != 1 {
		t.Error("Two is noted as the two parts are:", l.Count())
	}
	if l.Two(Node, b, a) == d || l.Count() != 2 {
		t.Error("the other way round it is another input")
	}
}

func TestCountAndHas(t *testing.T) {
	l := New()
	if l.Count() != 0 || l.Clash() || l.Has(api.Digest{}) || l.Has(wanted(1)) {
		t.Error("an empty log")
	}
	n := 0
	for _, domain := range []byte{0, 1, 255} {
		for _, parts := range someParts {
			want := wanted(domain, parts...)
			if l.Has(want) {
				t.Errorf("domain %d of %d parts: there ahead of time", domain, len(parts))
			}
			l.Of(domain, parts...)
			l.Of(domain, parts...)
			n++
			if l.Count() != n || !l.Has(want) || l.Clash() {
				t.Errorf("domain %d of %d parts: %d, wanted %d", domain, len(parts), l.Count(), n)
			}
		}
	}
	if l.Has(api.Digest{}) || l.Has(wanted(2)) {
		t.Error("a digest of nothing that was noted")
	}
}

func TestClash(t *testing.T) {
	l := New()
	l.note("a", api.Digest{1})
	l.note("a", api.Digest{1})
	l.note("b", api.Digest{2})
	if l.Clash() || l.Count() != 2 {
		t.Error("no clash yet:", l.Count())
	}
	m := New()
	m.Join(l)
	l.note("c", api.Digest{1})
	if !l.Clash() || l.Count() != 3 || !l.Has(api.Digest{1}) {
		t.Error("a clash:", l.Count())
	}
	l.note("d", api.Digest{4})
	if !l.Clash() {
		t.Error("a clash stays")
	}
	if m.Clash() {
		t.Error("what was joined earlier has none")
	}
	// Two logs may clash with one another alone.
	n := New()
	n.note("e", api.Digest{2})
	m.Join(n)
	if n.Clash() || !m.Clash() || m.Count() != 3 {
		t.Error("a clash by joining:", m.Count())
	}
}

func TestJoin(t *testing.T) {
	l, m := New(), New()
	a, b, c := l.Of(1, "a"), l.Of(1, "b"), m.Of(1, "c")
	m.Of(1, "b")
	l.Join(m)
	if l.Count() != 3 || !l.Has(a) || !l.Has(b) || !l.Has(c) || l.Clash() {
		t.Error("joined:", l.Count())
	}
	if m.Count() != 2 || m.Has(a) || !m.Has(b) || !m.Has(c) {
		t.Error("what is joined stays as it was:", m.Count())
	}
	// From now on each goes its own way.
	d, e := m.Of(1, "d"), l.Of(1, "e")
	if l.Has(d) || m.Has(e) || l.Count() != 4 || m.Count() != 3 {
		t.Error("the two logs share memory")
	}
	l.Join(l)
	l.Join(nil)
	l.Join(New())
	if l.Count() != 4 || !l.Has(e) {
		t.Error("nothing more:", l.Count())
	}
	empty := New()
	empty.Join(m)
	if empty.Count() != 3 || !empty.Has(d) {
		t.Error("into an empty log:", empty.Count())
	}
	var none *Log
	none.Join(l)
	none.Join(nil)
	if l.Count() != 4 {
		t.Error("into none:", l.Count())
	}
}

func TestNilLog(t *testing.T) {
	var none *Log
	d := none.Of(1, "a")
	none.Two(Node, d, d)
	if none.Clash() || none.Count() != 0 || none.Has(d) || none.Has(api.Digest{}) {
		t.Error("a nil log notes nothing")
	}
}

func TestLogsAreApart(t *testing.T) {
	l, m := New(), New()
	d := l.Of(1)
	if l == m || m.Count() != 0 || m.Has(d) {
		t.Error("one log notes for another")
	}
}

func TestUnlikeInputs(t *testing.T) {
	l := New()
	n := 0
	for domain := range 256 {
		for _, parts := range someParts {
			if len(parts) == 1 && len(parts[0]) > 100 {
				continue
			}
			l.Of(byte(domain), parts...)
			n++
		}
		if l.Count() != n {
			t.Fatalf("domain %d: %d inputs, wanted %d", domain, l.Count(), n)
		}
	}
	if l.Clash() {
		t.Error("a clash")
	}
}
