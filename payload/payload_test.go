package payload

import (
	"encoding/binary"
	"encoding/hex"
	"math"
	"strings"
	"testing"

	"pontoon/api"
	"pontoon/name"
)

// word, long, text: the bytes of numbers and of a text, by the library.
func word(n uint32) string { return string(binary.BigEndian.AppendUint32(nil, n)) }

func long(n uint64) string { return string(binary.BigEndian.AppendUint64(nil, n)) }

func text(s string) string { return word(uint32(len(s))) + s }

// plain: the bytes of a payload, of one that may not be, too.
func plain(p any) string {
	switch x := p.(type) {
	case api.Transfer:
		return "\x01" + word(x.Origin) + text(x.Token) + text(x.To) + long(x.Amount)
	case api.Saying:
		return "\x02" + text(x.From) + text(x.Text)
	case api.Detail:
		return "\x03" + word(x.Origin) + text(x.Token) + long(x.Cap)
	}
	panic("no payload")
}

var origins = []uint32{0, 1, 2, 255, 256, 0x01020304, 1 << 31, math.MaxUint32}

var numbers = []uint64{1, 2, 255, 256, 0x0102030405060708, 1 << 32, 1 << 63, math.MaxUint64}

var names = []string{"a", "ada", "z9", "α", "ω1", "abcdefghijkl", "αβγδεζηθικλμ", "a23456789012"}

// noNames: of few bytes enough to be read.
var noNames = []string{
	"", "A", "Ada", "1a", "9", "a b", " a", "a\n", "a\x00", "é", "Ω", "a\xff", "\xff", "\xce", "a\ufffd", "漢",
	"abcdefghijklm", "αβγδεζηθικλμν", strings.Repeat("a", 48), strings.Repeat("\xff", 48), strings.Repeat("😀", 12),
}

// longNames: too many bytes.
var longNames = []string{strings.Repeat("a", 49), strings.Repeat("α", 25), strings.Repeat("\xff", 300), strings.Repeat("a", 70000)}

var said = []string{"", "h", "hi", "A b", " ~", "漢", "\ufffd", "\u0080", "\u00a0", strings.Repeat("x", 64), strings.Repeat("😀", 64)}

// notSaid: of few bytes enough to be read.
var notSaid = []string{"\n", "\x00", "a\x1f", "\x7f", "\xff", "hi\xe6\xbc", strings.Repeat("x", 65), strings.Repeat("x", 256), strings.Repeat("漢", 65)}

// longTexts: too many bytes.
var longTexts = []string{strings.Repeat("x", 257), strings.Repeat("😀", 64) + "x", strings.Repeat("\xff", 1000), strings.Repeat("x", 70000)}

// rights: payloads that may be.
func rights() []any {
	var l []any
	for i, s := range names {
		for j, to := range names {
			l = append(l, api.Transfer{Origin: origins[i], Token: s, To: to, Amount: numbers[j]})
		}
		for _, text := range said {
			l = append(l, api.Saying{From: s, Text: text})
		}
		for j, n := range numbers {
			l = append(l, api.Detail{Origin: origins[j], Token: s, Cap: n})
		}
		l = append(l, api.Detail{Origin: origins[i], Token: s})
	}
	return l
}

// wrongs: payloads that may not be, each for one reason; of texts told.
func wrongs(noNames, notSaid []string) []any {
	var l []any
	for _, s := range noNames {
		l = append(l,
			api.Transfer{Origin: 1, Token: s, To: "b", Amount: 1},
			api.Transfer{Origin: 1, Token: "a", To: s, Amount: 1},
			api.Saying{From: s, Text: "hi"},
			api.Detail{Origin: 1, Token: s, Cap: 1})
	}
	for _, s := range notSaid {
		l = append(l, api.Saying{From: "a", Text: s})
	}
	return l
}

// allWrongs: and those for other reasons, and for several.
func allWrongs() []any {
	l := append(wrongs(noNames, notSaid), wrongs(longNames, longTexts)...)
	return append(l, api.Transfer{}, api.Saying{}, api.Detail{}, api.Transfer{Origin: 1, Token: "a", To: "b"}, api.Saying{Text: "hi"})
}

type (
	ownTransfer api.Transfer
	ownSaying   struct{ api.Saying }
	withMethod  struct{ api.Detail }
)

func (withMethod) Error() string { panic("it isn't asked") }

// others: what is no payload.
func others() []any {
	t, s, d := api.Transfer{Token: "a", To: "b", Amount: 1}, api.Saying{From: "a"}, api.Detail{Token: "a"}
	return []any{
		nil, 0, 1, "", "\x02", true, 1.5, math.NaN(), api.OK, api.Errno(1), []any{}, []any{t}, []byte("\x02"), map[string]int{}, func() {}, make(chan int),
		&t, &s, &d, (*api.Transfer)(nil), (*api.Saying)(nil), (*api.Detail)(nil), ownTransfer(t), ownSaying{s}, withMethod{d}, &withMethod{d},
		struct{}{}, [1]api.Transfer{t}, api.Letter{}, api.Pay{}, api.Say{From: "a"}, api.Send{}, api.Sig{}, struct{ From, Text string }{"a", "b"},
	}
}

// TestKnown: written out by hand.
func TestKnown(t *testing.T) {
	for _, c := range []struct {
		p      any
		wanted string
	}{
		{api.Transfer{Origin: 1, Token: "a", To: "bob", Amount: 258}, "01000000010000000161" + "00000003626f62" + "0000000000000102"},
		{api.Saying{From: "α", Text: "Hi!"}, "0200000002ceb100000003486921"},
		{api.Saying{From: "a"}, "02000000016100000000"},
		{api.Detail{Origin: math.MaxUint32, Token: "mint", Cap: math.MaxUint64}, "03ffffffff000000046d696e74ffffffffffffffff"},
		{api.Detail{Token: "a"}, "0300000000000000016100000000" + "00000000"},
	} {
		s, e := Bytes(c.p)
		if got := hex.EncodeToString([]byte(s)); e != api.OK || got != c.wanted {
			t.Errorf("%+v: %s, %v", c.p, got, e)
		}
		if p, e := Read(s); e != api.OK || p != c.p {
			t.Errorf("%+v is read as %+v, %v", c.p, p, e)
		}
	}
}

func TestTag(t *testing.T) {
	for _, p := range append(rights(), allWrongs()...) {
		if got := Tag(p); got != int(plain(p)[0]) {
			t.Errorf("%+v: %d", p, got)
		}
	}
	for _, p := range others() {
		if got := Tag(p); got != 0 {
			t.Errorf("%T: %d", p, got)
		}
	}
}

func TestRight(t *testing.T) {
	for _, p := range rights() {
		if !Right(p) {
			t.Errorf("%+v may be", p)
		}
	}
	for _, p := range append(allWrongs(), others()...) {
		if Right(p) {
			t.Errorf("%T %+v may not be", p, p)
		}
	}
}

// TestNamesAndTextsAreLayerTwos: rune by rune.
func TestNamesAndTextsAreLayerTwos(t *testing.T) {
	for r := range rune(0x500) {
		for _, s := range []string{string(r), "a" + string(r)} {
			is, says := name.Right(s), name.Says(s)
			if Right(api.Transfer{Token: s, To: "b", Amount: 1}) != is || Right(api.Transfer{Token: "b", To: s, Amount: 1}) != is ||
				Right(api.Saying{From: s}) != is || Right(api.Detail{Token: s}) != is || Right(api.Saying{From: "a", Text: s}) != says {
				t.Errorf("%+q", s)
			}
		}
	}
}

func TestBytes(t *testing.T) {
	for _, p := range rights() {
		if s, e := Bytes(p); e != api.OK || s != plain(p) {
			t.Errorf("%+v: %x, %v", p, s, e)
		}
	}
	for _, p := range allWrongs() {
		if s, e := Bytes(p); e != api.ErrForm || s != "" {
			t.Errorf("%+v: %x, %v", p, s, e)
		}
	}
	for _, p := range others() {
		if s, e := Bytes(p); e != api.ErrArg || s != "" {
			t.Errorf("%T: %x, %v", p, s, e)
		}
	}
}

// refuses: bytes aren't read, and nothing stands beside the error.
func refuses(t *testing.T, what, s string, wanted api.Errno) {
	t.Helper()
	if p, e := Read(s); e != wanted || p != nil {
		t.Errorf("%s: %+v, %v, wanted %v", what, p, e, wanted)
	}
}

func TestReadOfTooFewBytes(t *testing.T) {
	for _, p := range rights() {
		s := plain(p)
		for n := range len(s) {
			refuses(t, "too few", s[:n], api.ErrShort)
		}
	}
}

func TestReadOfBytesLeft(t *testing.T) {
	for _, p := range rights() {
		for _, more := range []string{"\x00", "a", word(0), plain(p)} {
			refuses(t, "bytes left", plain(p)+more, api.ErrForm)
		}
	}
}

// TestReadOfNoTag: known ahead of all that stands behind it.
func TestReadOfNoTag(t *testing.T) {
	for b := range 256 {
		if 1 <= b && b <= 3 {
			refuses(t, "a tag alone", string([]byte{byte(b)}), api.ErrShort)
			continue
		}
		for _, p := range rights()[:30] {
			refuses(t, "no tag", string([]byte{byte(b)})+plain(p)[1:], api.ErrForm)
		}
		refuses(t, "no tag alone", string([]byte{byte(b)}), api.ErrForm)
		refuses(t, "no tag, a length", string([]byte{byte(b)})+word(math.MaxUint32), api.ErrForm)
	}
}

func TestReadOfWhatMayNotBe(t *testing.T) {
	for _, p := range wrongs(noNames, notSaid) {
		refuses(t, "may not be", plain(p), api.ErrForm)
	}
	for _, p := range []any{api.Transfer{}, api.Saying{}, api.Detail{}, api.Transfer{Origin: 1, Token: "a", To: "b"}} {
		refuses(t, "may not be", plain(p), api.ErrForm)
	}
}

func TestReadOfTooLong(t *testing.T) {
	for _, p := range wrongs(longNames, longTexts) {
		refuses(t, "too long", plain(p), api.ErrLong)
	}
}

// TestFirstError: what is wrong first is told, whatever is wrong behind it.
func TestFirstError(t *testing.T) {
	one := word(1)
	for _, n := range []uint32{49, 256, 1 << 31, math.MaxUint32} {
		refuses(t, "a token's length", "\x01"+one+word(n), api.ErrLong)
		refuses(t, "a receiver's", "\x01"+one+text("a")+word(n), api.ErrLong)
		refuses(t, "a speaker's", "\x02"+word(n), api.ErrLong)
		refuses(t, "a told token's", "\x03"+one+word(n), api.ErrLong)
	}
	refuses(t, "a token's length that may be", "\x01"+one+word(48)+strings.Repeat("a", 47), api.ErrShort)
	refuses(t, "a receiver's", "\x01"+one+text("a")+word(48), api.ErrShort)
	refuses(t, "a speaker's", "\x02"+word(48), api.ErrShort)
	refuses(t, "a told token's", "\x03"+one+word(48), api.ErrShort)
	refuses(t, "a text's", "\x02"+text("a")+word(256)+strings.Repeat("a", 255), api.ErrShort)
	refuses(t, "a text's that may not be", "\x02"+text("a")+word(257), api.ErrLong)
	refuses(t, "the greatest text", "\x02"+text("a")+word(math.MaxUint32), api.ErrLong)
	refuses(t, "no name, and too few bytes", "\x01"+one+text("A")+text("b")+"\x00", api.ErrShort)
	refuses(t, "no name, and a long one", "\x01"+one+text("A")+word(49), api.ErrLong)
	refuses(t, "no name, and a long text", "\x02"+text("")+word(257), api.ErrLong)
	refuses(t, "a long name, and bytes left", "\x03"+one+text(longNames[0])+long(1)+"a", api.ErrLong)
	refuses(t, "nothing", "", api.ErrShort)
}

func TestTransfer(t *testing.T) {
	for _, p := range append(append(rights(), allWrongs()...), others()...) {
		x, ok := Transfer(p)
		y, is := p.(api.Transfer)
		if ok != is || x != y {
			t.Errorf("%T %+v: %+v, %v", p, p, x, ok)
		}
	}
}

// panics: does Must, and what does it answer, where it doesn't?
func panics(p any) (x api.Transfer, did bool) {
	defer func() {
		if recover() != nil {
			x, did = api.Transfer{}, true
		}
	}()
	return Must(p), false
}

func TestMust(t *testing.T) {
	for _, p := range append(append(rights(), allWrongs()...), others()...) {
		x, did := panics(p)
		y, is := p.(api.Transfer)
		if did == is || x != y {
			t.Errorf("%T %+v: %+v, %v", p, p, x, did)
		}
	}
}

// TestZeroTransferIsOne: it may not be, but is one.
func TestZeroTransferIsOne(t *testing.T) {
	x, ok := Transfer(api.Transfer{})
	y, did := panics(api.Transfer{})
	if !ok || did || x != (api.Transfer{}) || y != x || Tag(api.Transfer{}) != 1 {
		t.Error(x, ok, y, did)
	}
}

// changed: a payload, with each of its fields by itself another one.
func changed(p any) []any {
	switch x := p.(type) {
	case api.Transfer:
		a, b, c, d := x, x, x, x
		a.Origin ^= 1 << 31
		b.Token += "a"
		c.To += "a"
		d.Amount ^= 1 << 63
		return []any{a, b, c, d, api.Transfer{Origin: x.Origin, Token: x.To + "a", To: x.Token, Amount: x.Amount}}
	case api.Saying:
		return []any{api.Saying{From: x.From + "a", Text: x.Text}, api.Saying{From: x.From, Text: x.Text + "\x00"}, api.Saying{From: x.From, Text: "q" + x.Text}}
	case api.Detail:
		a, b, c := x, x, x
		a.Origin++
		b.Token = "q" + b.Token
		c.Cap++
		return []any{a, b, c}
	}
	panic("no payload")
}

// cloned: the same, its texts in other memory.
func cloned(p any) any {
	switch x := p.(type) {
	case api.Transfer:
		x.Token, x.To = strings.Clone(x.Token), strings.Clone(x.To)
		return x
	case api.Saying:
		return api.Saying{From: strings.Clone(x.From), Text: strings.Clone(x.Text)}
	case api.Detail:
		x.Token = strings.Clone(x.Token)
		return x
	}
	panic("no payload")
}

func TestSame(t *testing.T) {
	all := append(rights(), allWrongs()...)
	for _, p := range all {
		if !Same(p, p) || !Same(p, cloned(p)) {
			t.Errorf("%+v isn't the same as itself", p)
		}
		for _, q := range changed(p) {
			if Same(p, q) || Same(q, p) {
				t.Errorf("%+v and %+v are the same", p, q)
			}
		}
		for _, q := range others() {
			if Same(p, q) || Same(q, p) {
				t.Errorf("%+v and a %T are the same", p, q)
			}
		}
	}
	for i, p := range all[:150] {
		for j, q := range all[:150] {
			if Same(p, q) != (p == q) {
				t.Errorf("%d, %d: %+v, %+v", i, j, p, q)
			}
		}
	}
}

// TestSameOfOneTypeAlone: also where all fields are alike, or are nothing.
func TestSameOfOneTypeAlone(t *testing.T) {
	l := []any{api.Transfer{}, api.Saying{}, api.Detail{}, nil, struct{}{}}
	for i, p := range l {
		for j, q := range l {
			if Same(p, q) != (i == j && i < 3) {
				t.Errorf("%T, %T", p, q)
			}
		}
	}
	if Same(api.Transfer{Origin: 1, Token: "a"}, api.Detail{Origin: 1, Token: "a"}) {
		t.Error("unlike types are the same")
	}
}

// TestSameOfNoPayloads: not even of one and itself, also where the language can't hold them against each other.
func TestSameOfNoPayloads(t *testing.T) {
	for _, p := range others() {
		for _, q := range others() {
			if Same(p, q) {
				t.Errorf("%T, %T", p, q)
			}
		}
		if Same(p, p) {
			t.Errorf("%T", p)
		}
	}
}

func TestWrittenIsRead(t *testing.T) {
	for _, p := range rights() {
		s, e := Bytes(p)
		if e != api.OK {
			t.Fatalf("%+v: %v", p, e)
		}
		if q, e := Read(s); e != api.OK || !Same(p, q) || p != q {
			t.Errorf("%+v is read as %+v, %v", p, q, e)
		}
	}
}

// TestReadIsWritten: bytes that are near a payload's are read as one that is written as they are, or not at all.
func TestReadIsWritten(t *testing.T) {
	read, refused := 0, 0
	check := func(s string) {
		p, e := Read(s)
		if e != api.OK {
			refused++
			if p != nil {
				t.Errorf("%x: %+v beside %v", s, p, e)
			}
			return
		}
		read++
		if again, e := Bytes(p); e != api.OK || again != s || !Right(p) {
			t.Errorf("%x is read as %+v, and written as %x, %v", s, p, again, e)
		}
	}
	for _, p := range rights() {
		s := []byte(plain(p))
		for at := range s {
			for _, b := range []byte{0, 1, 2, 3, 4, '0', 'a', 0xce, 0xff} {
				was := s[at]
				s[at] = b
				check(string(s))
				s[at] = was
			}
		}
	}
	if read == 0 || refused == 0 {
		t.Errorf("%d read, %d refused", read, refused)
	}
}

// TestEveryCallEnds: at texts and things of all sorts.
func TestEveryCallEnds(t *testing.T) {
	huge := strings.Repeat("\xff", 1<<20)
	for _, s := range []string{"", "a", huge, "\x01", "\x02" + huge, "\x03" + huge, "\x01" + strings.Repeat("\x00", 1000)} {
		Read(s)
		for _, p := range append(others(), api.Transfer{Token: s, To: s}, api.Saying{From: s, Text: s}, api.Detail{Token: s}) {
			Right(p)
			Tag(p)
			Bytes(p)
			Transfer(p)
			Same(p, p)
			Same(p, nil)
			Same(nil, p)
		}
	}
}
