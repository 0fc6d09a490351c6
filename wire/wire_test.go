package wire

import (
	"encoding/binary"
	"math"
	"slices"
	"strings"
	"testing"

	"pontoon/api"
)

// digestFrom: a digest of which no two bytes are alike.
func digestFrom(first byte) api.Digest {
	var d api.Digest
	for i := range d {
		d[i] = first + byte(i)
	}
	return d
}

func list(n int) []api.Digest {
	l := make([]api.Digest, n)
	for i := range l {
		l[i] = digestFrom(byte(7 * i))
	}
	return l
}

func word(n uint32) string { return string(binary.BigEndian.AppendUint32(nil, n)) }

func joined(l []api.Digest) string {
	s := word(uint32(len(l)))
	for _, d := range l {
		s += string(d[:])
	}
	return s
}

func sameSig(a, b api.Sig) bool {
	return a.Index == b.Index && slices.Equal(a.Parts, b.Parts) && slices.Equal(a.Others, b.Others) && slices.Equal(a.Path, b.Path)
}

func isZeroSig(s api.Sig) bool {
	return s.Index == 0 && len(s.Parts) == 0 && len(s.Others) == 0 && len(s.Path) == 0
}

func TestNumbersBytes(t *testing.T) {
	for _, n := range []uint64{0, 1, 127, 128, 255, 256, 258, 65535, 65536, 1 << 24, math.MaxInt32, 1 << 31, math.MaxUint32, 1 << 32, 0x0102030405060708, math.MaxInt64, 1 << 63, math.MaxUint64} {
		if got := Byte(uint8(n)); got != string([]byte{byte(n)}) {
			t.Errorf("Byte(%d): %x", uint8(n), got)
		}
		if got := Word(uint32(n)); got != word(uint32(n)) {
			t.Errorf("Word(%d): %x", uint32(n), got)
		}
		if got := Long(n); got != string(binary.BigEndian.AppendUint64(nil, n)) {
			t.Errorf("Long(%d): %x", n, got)
		}
	}
}

func TestTextsBytes(t *testing.T) {
	for _, s := range []string{"", "ab", "\x00", "\xff\xfe", "漢", strings.Repeat("a", 255), strings.Repeat("b", 256), strings.Repeat("c", 70000)} {
		if got := Text(s); got != word(uint32(len(s)))+s {
			t.Errorf("%d bytes: %x", len(s), got)
		}
	}
}

func TestDigestsBytes(t *testing.T) {
	for _, d := range []api.Digest{{}, {1}, {31: 1}, digestFrom(1), digestFrom(250)} {
		if got := Digest(d); got != string(d[:]) {
			t.Errorf("%x: %x", d, got)
		}
	}
	for _, n := range []int{0, 1, 2, 31, 32, 33, 300} {
		if got := Digests(list(n)); got != joined(list(n)) {
			t.Errorf("%d: %x", n, got)
		}
	}
	if Digests(nil) != "\x00\x00\x00\x00" || Digests([]api.Digest{}) != Digests(nil) {
		t.Error("no digests")
	}
}

func TestSigsBytes(t *testing.T) {
	indexes := []struct {
		index int
		low   uint32
	}{
		{0, 0}, {3, 3}, {15, 15}, {math.MaxInt32, math.MaxInt32}, {1 << 31, 1 << 31}, {math.MaxUint32, math.MaxUint32},
		{1 << 32, 0}, {1<<32 + 5, 5}, {-1, math.MaxUint32}, {math.MinInt64, 0}, {math.MaxInt64, math.MaxUint32},
	}
	for _, k := range indexes {
		g := api.Sig{Index: k.index, Parts: list(2), Others: list(40)[37:], Path: list(1)}
		if got := Sig(g); got != word(k.low)+joined(g.Parts)+joined(g.Others)+joined(g.Path) {
			t.Errorf("index %d: %x", k.index, got)
		}
	}
	if Sig(api.Sig{}) != strings.Repeat("\x00", 16) {
		t.Error("zero value")
	}
}

func TestWhatIsWrittenIsntChanged(t *testing.T) {
	spare := list(5)
	g := api.Sig{Index: 1, Parts: spare[:1], Others: spare[1:2], Path: spare[2:3]}
	Sig(g)
	Digests(spare[:2])
	if !slices.Equal(spare, list(5)) {
		t.Error("changed")
	}
}

func TestTakes(t *testing.T) {
	d := digestFrom(9)
	r := Over("\x07" + "\x01\x02\x03\x04" + "\x80\x00\x00\x00\x00\x00\x00\xff" + string(d[:]) + word(2) + "ab" + joined(list(3)) + "!")
	if r.Left() != 1+4+8+32+6+100+1 || r.End() != api.ErrForm {
		t.Error("at first:", r.Left(), r.End())
	}
	if n := r.Byte(); n != 7 || r.Left() != 152-1 {
		t.Error("byte:", n, r.Left())
	}
	if n := r.Word(); n != 0x01020304 || r.Left() != 152-5 {
		t.Error("word:", n, r.Left())
	}
	if n := r.Long(); n != 1<<63|255 || r.Left() != 152-13 {
		t.Error("long:", n, r.Left())
	}
	if got := r.Digest(); got != d || r.Left() != 152-45 {
		t.Error("digest:", got, r.Left())
	}
	if s := r.Text(2); s != "ab" || r.Left() != 152-51 {
		t.Errorf("text: %q %d", s, r.Left())
	}
	if l := r.Digests(3); !slices.Equal(l, list(3)) || r.Left() != 1 {
		t.Error("digests:", l, r.Left())
	}
	if r.End() != api.ErrForm || r.Byte() != '!' || r.End() != api.OK || r.Left() != 0 {
		t.Error("end:", r.End(), r.Left())
	}
	if r.Byte() != 0 || r.End() != api.ErrShort {
		t.Error("behind the end:", r.End())
	}
}

func TestEnds(t *testing.T) {
	if e := Over("").End(); e != api.OK {
		t.Error("empty:", e)
	}
	r := Over("\xff\xff\xff\xff\xff\xff\xff\xff\xff\xff\xff\xff\xff")
	if r.Byte() != 255 || r.Word() != math.MaxUint32 || r.Long() != math.MaxUint64 || r.End() != api.OK {
		t.Error("greatest numbers")
	}
}

// zeros: does each call answer its zero value, and take nothing?
func zeros(t *testing.T, what string, r *Reader) {
	t.Helper()
	left, e := r.Left(), r.End()
	if r.Byte() != 0 || r.Word() != 0 || r.Long() != 0 || r.Digest() != (api.Digest{}) || r.Text(math.MaxInt) != "" || len(r.Digests(math.MaxInt)) != 0 || !isZeroSig(r.Sig()) {
		t.Errorf("%s: not zero", what)
	}
	r.Fail(api.ErrFraud)
	if r.Left() != left || r.End() != e {
		t.Errorf("%s: %d left and %v, not %d and %v", what, r.Left(), r.End(), left, e)
	}
}

func TestShort(t *testing.T) {
	widths := []struct {
		name string
		most int
		take func(r *Reader) bool
	}{
		{"byte", 1, func(r *Reader) bool { return r.Byte() == 0 }},
		{"word", 4, func(r *Reader) bool { return r.Word() == 0 }},
		{"long", 8, func(r *Reader) bool { return r.Long() == 0 }},
		{"digest", 32, func(r *Reader) bool { return r.Digest() == api.Digest{} }},
		{"length", 4, func(r *Reader) bool { return r.Text(math.MaxInt) == "" }},
		{"how many", 4, func(r *Reader) bool { return len(r.Digests(math.MaxInt)) == 0 }},
		{"index", 4, func(r *Reader) bool { return isZeroSig(r.Sig()) }},
	}
	for _, w := range widths {
		for n := range w.most {
			r := Over(strings.Repeat("\xff", n))
			if !w.take(r) || r.End() != api.ErrShort || r.Left() != n {
				t.Errorf("%s of %d bytes: %v, %d left", w.name, n, r.End(), r.Left())
			}
			zeros(t, w.name, r)
		}
	}
}

func TestTextsLengths(t *testing.T) {
	cases := []struct {
		in   string
		most int
		want string
		e    api.Errno
		left int
	}{
		{word(0), 0, "", api.OK, 0},
		{word(0), -1, "", api.OK, 0},
		{word(0), math.MinInt, "", api.OK, 0},
		{word(1) + "a", 1, "a", api.OK, 0},
		{word(1) + "a", 0, "", api.ErrLong, 1},
		{word(1) + "a", -1, "", api.ErrLong, 1},
		{word(1) + "a", math.MinInt, "", api.ErrLong, 1},
		{word(2) + "ab", 1, "", api.ErrLong, 2},
		{word(2) + "ab", 2, "ab", api.OK, 0},
		{word(2) + "ab", math.MaxInt, "ab", api.OK, 0},
		{word(2) + "abc", 2, "ab", api.ErrForm, 1},
		{word(3) + "ab", 2, "", api.ErrLong, 2},
		{word(3) + "ab", 3, "", api.ErrShort, 2},
		{word(math.MaxUint32) + "ab", math.MaxInt32, "", api.ErrLong, 2},
		{word(math.MaxUint32) + "ab", math.MaxInt, "", api.ErrShort, 2},
		{word(1 << 31), 1<<31 - 1, "", api.ErrLong, 0},
		{word(1 << 31), 1 << 31, "", api.ErrShort, 0},
	}
	for _, c := range cases {
		r := Over(c.in)
		if s := r.Text(c.most); s != c.want || r.End() != c.e || r.Left() != c.left {
			t.Errorf("%x, at most %d: %q, %v, %d left", c.in, c.most, s, r.End(), r.Left())
		}
	}
}

func TestListsLengths(t *testing.T) {
	two := joined(list(2))
	cases := []struct {
		in   string
		most int
		n    int
		e    api.Errno
		left int
	}{
		{word(0), 0, 0, api.OK, 0},
		{word(0), -5, 0, api.OK, 0},
		{two, 2, 2, api.OK, 0},
		{two, math.MaxInt, 2, api.OK, 0},
		{two, 1, 0, api.ErrLong, 64},
		{two, 0, 0, api.ErrLong, 64},
		{two, -1, 0, api.ErrLong, 64},
		{two, math.MinInt, 0, api.ErrLong, 64},
		{two + "x", 2, 2, api.ErrForm, 1},
		{two[:67], 2, 0, api.ErrShort, 63},
		{two[:36], 2, 0, api.ErrShort, 32},
		{two[:67], 1, 0, api.ErrLong, 63},
		{word(math.MaxUint32), math.MaxInt, 0, api.ErrShort, 0},
		{word(math.MaxUint32), 32, 0, api.ErrLong, 0},
		{word(1 << 27), math.MaxInt, 0, api.ErrShort, 0},
	}
	for _, c := range cases {
		r := Over(c.in)
		if l := r.Digests(c.most); !slices.Equal(l, list(c.n)) || r.End() != c.e || r.Left() != c.left {
			t.Errorf("%x, at most %d: %d, %v, %d left", c.in, c.most, len(l), r.End(), r.Left())
		}
	}
}

func TestSigsRead(t *testing.T) {
	full := api.Sig{Index: math.MaxInt32, Parts: list(32), Others: list(32), Path: list(32)}
	bytes := Sig(full)
	r := Over(bytes + "z")
	if got := r.Sig(); !sameSig(got, full) || r.Left() != 1 {
		t.Error("full:", got, r.Left())
	}
	// The lists' words stand at these places; each error takes what stood ahead of it.
	for _, at := range []int{4, 4 + 4 + 1024, 4 + 2*(4+1024)} {
		long := Over(bytes[:at] + word(33) + strings.Repeat("a", 40*32))
		if !isZeroSig(long.Sig()) || long.End() != api.ErrLong || long.Left() != 40*32 {
			t.Errorf("long list at %d: %v, %d left", at, long.End(), long.Left())
		}
		short := Over(bytes[:at+4+1023])
		if !isZeroSig(short.Sig()) || short.End() != api.ErrShort || short.Left() != 1023 {
			t.Errorf("short list at %d: %v, %d left", at, short.End(), short.Left())
		}
		zeros(t, "behind a signature", short)
	}
	for _, index := range []uint32{1 << 31, math.MaxUint32} {
		for _, rest := range []string{"", "abc", word(33), word(0) + word(0) + word(0)} {
			r := Over(word(index) + rest)
			if !isZeroSig(r.Sig()) || r.End() != api.ErrRange || r.Left() != len(rest) {
				t.Errorf("index %d: %v, %d left", index, r.End(), r.Left())
			}
		}
	}
	for n := range len(bytes) {
		r := Over(bytes[:n])
		if !isZeroSig(r.Sig()) || r.End() != api.ErrShort {
			t.Errorf("%d bytes: %v", n, r.End())
		}
	}
}

func TestFail(t *testing.T) {
	r := Over("abcde")
	r.Fail(api.OK)
	if r.End() != api.ErrForm || r.Byte() != 'a' {
		t.Error("OK is no error:", r.End())
	}
	r.Fail(api.ErrName)
	if r.End() != api.ErrName || r.Left() != 4 {
		t.Error("error:", r.End(), r.Left())
	}
	r.Fail(api.ErrArg)
	r.Fail(api.OK)
	if r.End() != api.ErrName {
		t.Error("the first error stays:", r.End())
	}
	zeros(t, "failed", r)
	// An error stays ahead of what the bytes would be.
	r = Over("")
	r.Fail(api.Errno(-77))
	if r.End() != api.Errno(-77) || r.Byte() != 0 || r.End() != api.Errno(-77) {
		t.Error("some error:", r.End())
	}
	r = Over(word(9))
	r.Text(1)
	r.Fail(api.ErrArg)
	if r.End() != api.ErrLong {
		t.Error("its own error stays:", r.End())
	}
}

func TestNilReader(t *testing.T) {
	var r *Reader
	if r.End() != api.ErrNil || r.Left() != 0 {
		t.Error(r.End(), r.Left())
	}
	zeros(t, "nil", r)
	if r.Text(-1) != "" || len(r.Digests(0)) != 0 || r.End() != api.ErrNil {
		t.Error("nil")
	}
}

func TestReadersAreApart(t *testing.T) {
	s := word(1) + word(2)
	a, b := Over(s), Over(s)
	a.Word()
	a.Fail(api.ErrArg)
	if b.Left() != 8 || b.Word() != 1 || b.Word() != 2 || b.End() != api.OK {
		t.Error("one reader changed another")
	}
	both := Over(joined(list(2)) + joined(list(2)))
	x, y := both.Digests(2), both.Digests(2)
	x[0][0]++
	_ = append(x, api.Digest{})
	if !slices.Equal(y, list(2)) {
		t.Error("two answers share memory")
	}
}

// bytesOf: n bytes from a seed.
func bytesOf(n int, seed uint32) string {
	b := make([]byte, n)
	for i := range b {
		seed = seed*1664525 + 1013904223
		b[i] = byte(seed >> 24)
	}
	return string(b)
}

func TestWrittenIsRead(t *testing.T) {
	for seed := range uint32(300) {
		raw := Over(bytesOf(64, seed))
		n8, n32, n64, d := raw.Byte(), raw.Word(), raw.Long(), raw.Digest()
		text := bytesOf(int(seed)%70, seed+1)
		l := list(int(seed) % 40)
		g := api.Sig{Index: int(n32 >> 1), Parts: list(int(n8) % 33), Others: list(int(seed) % 33), Path: list(int(seed/7) % 33)}
		r := Over(Byte(n8) + Word(n32) + Long(n64) + Digest(d) + Text(text) + Digests(l) + Sig(g))
		if r.Byte() != n8 || r.Word() != n32 || r.Long() != n64 || r.Digest() != d || r.Text(len(text)) != text || !slices.Equal(r.Digests(len(l)), l) || !sameSig(r.Sig(), g) || r.End() != api.OK {
			t.Errorf("%d: %v", seed, r.End())
		}
	}
}

func TestReadIsWritten(t *testing.T) {
	// Small words, so that lengths come out within what is there.
	small := func(seed uint32) string {
		s := ""
		for i := range uint32(6) {
			n := (seed >> (2 * i)) % 4
			s += word(n) + bytesOf(int(n)*32, seed+i)
		}
		return s
	}
	for seed := range uint32(500) {
		in := small(seed)
		kinds := []struct {
			name string
			back func(r *Reader) string
		}{
			{"byte", func(r *Reader) string { return Byte(r.Byte()) }},
			{"word", func(r *Reader) string { return Word(r.Word()) }},
			{"long", func(r *Reader) string { return Long(r.Long()) }},
			{"digest", func(r *Reader) string { return Digest(r.Digest()) }},
			{"text", func(r *Reader) string { return Text(r.Text(100)) }},
			{"digests", func(r *Reader) string { return Digests(r.Digests(100)) }},
			{"sig", func(r *Reader) string { return Sig(r.Sig()) }},
		}
		for _, k := range kinds {
			r := Over(in)
			back := k.back(r)
			taken := in[:len(in)-r.Left()]
			if e := r.End(); (e == api.OK || e == api.ErrForm) && back != taken {
				t.Errorf("%d, %s: %x is not %x", seed, k.name, back, taken)
			}
		}
	}
}
