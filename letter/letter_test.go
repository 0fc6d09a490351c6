package letter

import (
	"crypto/sha256"
	"encoding/binary"
	"encoding/hex"
	"math"
	"strings"
	"testing"

	"pontoon/api"
	"pontoon/digest"
	"pontoon/name"
	"pontoon/sha"
)

// word, text: the bytes of a number and of a text, by the library.
func word(n uint32) string { return string(binary.BigEndian.AppendUint32(nil, n)) }

func text(s string) string { return word(uint32(len(s))) + s }

// plain: a letter's bytes, field by field.
func plain(x api.Letter) string {
	return word(x.From) + word(x.Nonce) + word(x.To) + text(x.Sender) + text(x.Receiver) + text(x.Body)
}

// leafOf: a letter's leaf, by the library.
func leafOf(x api.Letter) api.Digest {
	return sha256.Sum256([]byte("\x05" + text(plain(x))))
}

func logs() []*digest.Log { return []*digest.Log{nil, digest.New()} }

const most = math.MaxUint32

// names: those that are, at the ends of what the chapter of names allows among them.
var names = []string{"a", "ada", "z9", "α", "ω1", "abcdefghijkl", "αβγδεζηθικλμ", "a23456789012"}

// noNames: those that aren't.
var noNames = []string{
	"", "A", "Ada", "1a", "9", "a b", " a", "a\n", "a\x00", "é", "Ω", "a\xff", "\xff", "\xce", "a\ufffd", "漢",
	"abcdefghijklm", "αβγδεζηθικλμν", strings.Repeat("a", 48), strings.Repeat("\xff", 48), strings.Repeat("😀", 12),
}

// longNames: too long for a name, as bytes.
var longNames = []string{strings.Repeat("a", 49), strings.Repeat("α", 25), strings.Repeat("\xff", 300), strings.Repeat("a", 70000)}

// bodies: any bytes, up to as many as there may be.
var bodies = []string{"", "h", "hi", "\x00", "\xff\xfe", "A b\n", "漢", "\xe6\xbc", strings.Repeat("b", 299), strings.Repeat("b", 300), strings.Repeat("\xff", 300), strings.Repeat("漢", 100)}

// longBodies: too long.
var longBodies = []string{strings.Repeat("b", 301), strings.Repeat("漢", 100) + "a", strings.Repeat("b", 556), strings.Repeat("b", 70000)}

// letters: that may be.
func letters() []api.Letter {
	list := []api.Letter{
		{From: 1, Nonce: 2, To: 3, Sender: "a", Receiver: "b", Body: "hi"},
		{From: most, Nonce: most, To: most, Sender: "a", Receiver: "a"},
		{From: 1 << 31, Nonce: 0x01020304, To: 0xfffefdfc, Sender: "a", Receiver: "a"},
	}
	for i, s := range names {
		for j, r := range names {
			for k, b := range bodies {
				list = append(list, api.Letter{From: uint32(i), Nonce: uint32(j) << 8, To: uint32(k) << 16, Sender: s, Receiver: r, Body: b})
			}
		}
	}
	return list
}

// wrongLetters: that may not be, for each reason by itself, and for several.
func wrongLetters() []api.Letter {
	list := []api.Letter{{}, {From: 1, Nonce: 1, To: 2, Body: "hi"}, {Sender: "A", Receiver: "B", Body: longBodies[0]}}
	for _, s := range append(append([]string{}, noNames...), longNames...) {
		list = append(list, api.Letter{From: 1, To: 2, Sender: s, Receiver: "b", Body: "hi"})
		list = append(list, api.Letter{From: 1, To: 2, Sender: "b", Receiver: s, Body: "hi"})
		list = append(list, api.Letter{From: 1, To: 2, Sender: s, Receiver: s, Body: "hi"})
	}
	for _, b := range longBodies {
		list = append(list, api.Letter{From: 1, To: 2, Sender: "a", Receiver: "b", Body: b})
	}
	return list
}

func TestMost(t *testing.T) {
	if Most != 300 {
		t.Error(Most)
	}
}

// TestKnown: made by another program.
func TestKnown(t *testing.T) {
	x := api.Letter{From: 1, Nonce: 2, To: 3, Sender: "a", Receiver: "b", Body: "hi"}
	s, e := Bytes(x)
	if got := hex.EncodeToString([]byte(s)); e != api.OK || got != "00000001000000020000000300000001610000000162000000026869" {
		t.Error(got, e)
	}
	if got := sha.Text(Leaf(nil, x)); got != "c14743f47152edebb0c6d5a0fd50dfa995f02d746e6d920c81755a4c3344f758" {
		t.Error(got)
	}
	if got := sha.Text(Leaf(nil, api.Letter{})); got != "fece34dfb7992d38058beebb799cfed268f62b6eaa3b80facb57939137cbd10e" {
		t.Error(got)
	}
}

func TestRight(t *testing.T) {
	for _, x := range letters() {
		if !Right(x) {
			t.Errorf("%+v may be", x)
		}
	}
	for _, x := range wrongLetters() {
		if Right(x) {
			t.Errorf("%+v may not be", x)
		}
	}
}

// TestBodyIsntAName: what makes a name wrong makes no body wrong.
func TestBodyIsntAName(t *testing.T) {
	for _, b := range noNames {
		if !Right(api.Letter{Sender: "a", Receiver: "b", Body: b}) {
			t.Errorf("%+q may be a body", b)
		}
	}
}

func TestBytes(t *testing.T) {
	for _, x := range letters() {
		if s, e := Bytes(x); e != api.OK || s != plain(x) {
			t.Errorf("%+v: %x, %v", x, s, e)
		}
	}
	for _, x := range wrongLetters() {
		if s, e := Bytes(x); e != api.ErrForm || s != "" {
			t.Errorf("%+v: %x, %v", x, s, e)
		}
	}
}

// refuses: bytes aren't read, and nothing stands beside the error.
func refuses(t *testing.T, what, s string, wanted api.Errno) {
	t.Helper()
	if x, e := Read(s); e != wanted || x != (api.Letter{}) {
		t.Errorf("%s: %+v, %v, wanted %v", what, x, e, wanted)
	}
}

func TestReadOfTooFewBytes(t *testing.T) {
	for _, x := range letters() {
		s := plain(x)
		for n := range len(s) {
			refuses(t, "too few", s[:n], api.ErrShort)
		}
	}
}

func TestReadOfBytesLeft(t *testing.T) {
	for _, x := range letters() {
		for _, more := range []string{"\x00", "a", strings.Repeat("\x00", 4), plain(x)} {
			refuses(t, "bytes left", plain(x)+more, api.ErrForm)
		}
	}
}

func TestReadOfWhatMayNotBe(t *testing.T) {
	for _, s := range noNames {
		refuses(t, "sender", plain(api.Letter{Sender: s, Receiver: "b", Body: "hi"}), api.ErrForm)
		refuses(t, "receiver", plain(api.Letter{Sender: "a", Receiver: s, Body: "hi"}), api.ErrForm)
	}
	refuses(t, "zero letter", plain(api.Letter{}), api.ErrForm)
}

func TestReadOfTooLong(t *testing.T) {
	for _, s := range longNames {
		refuses(t, "sender", plain(api.Letter{Sender: s, Receiver: "b", Body: "hi"}), api.ErrLong)
		refuses(t, "receiver", plain(api.Letter{Sender: "a", Receiver: s, Body: "hi"}), api.ErrLong)
	}
	for _, b := range longBodies {
		refuses(t, "body", plain(api.Letter{Sender: "a", Receiver: "b", Body: b}), api.ErrLong)
	}
}

// TestFirstError: what is wrong first is told, whatever is wrong behind it.
func TestFirstError(t *testing.T) {
	front := strings.Repeat("\x01", 12)
	long := word(49)
	refuses(t, "a length above what may be, without its bytes", front+long, api.ErrLong)
	refuses(t, "the greatest length", front+word(most), api.ErrLong)
	refuses(t, "a length that may be, without its bytes", front+word(48), api.ErrShort)
	refuses(t, "no receiver", front+text("a"), api.ErrShort)
	refuses(t, "a receiver's length", front+text("a")+long, api.ErrLong)
	refuses(t, "no body", front+text("a")+text("b"), api.ErrShort)
	refuses(t, "a body's length", front+text("a")+text("b")+word(301), api.ErrLong)
	refuses(t, "the greatest body", front+text("a")+text("b")+word(most), api.ErrLong)
	refuses(t, "a body's length that may be", front+text("a")+text("b")+word(300)+strings.Repeat("b", 299), api.ErrShort)
	refuses(t, "no name, and too few bytes", front+text("A")+text("b")+word(1), api.ErrShort)
	refuses(t, "no name, and a long body", front+text("")+text("b")+word(301), api.ErrLong)
	refuses(t, "no name, and a long receiver", front+text("A")+long, api.ErrLong)
	refuses(t, "a long sender, and bytes left", front+text(longNames[0])+text("b")+text("")+"a", api.ErrLong)
}

func TestLeaf(t *testing.T) {
	for _, x := range append(letters(), wrongLetters()...) {
		for _, l := range logs() {
			if got := Leaf(l, x); got != leafOf(x) {
				t.Errorf("%+v: %x", x, got)
			}
			if l != nil && (l.Count() != 1 || !l.Has(leafOf(x)) || l.Clash()) {
				t.Errorf("%+v: %d noted", x, l.Count())
			}
		}
	}
}

// TestLeafHangsOnNoLog: nor on what a log has noted.
func TestLeafHangsOnNoLog(t *testing.T) {
	l := digest.New()
	x := letters()[0]
	for range 3 {
		if Leaf(l, x) != leafOf(x) || l.Count() != 1 {
			t.Error("a leaf of a log that has it")
		}
	}
	y := x
	y.To++
	if Leaf(l, y) != leafOf(y) || l.Count() != 2 {
		t.Error("a leaf of a log that has another one")
	}
}

// changed: a letter, with each of its fields by itself another one.
func changed(x api.Letter) []api.Letter {
	var list []api.Letter
	change := func(do func(*api.Letter)) {
		y := x
		do(&y)
		list = append(list, y)
	}
	change(func(y *api.Letter) { y.From++ })
	change(func(y *api.Letter) { y.From ^= 1 << 31 })
	change(func(y *api.Letter) { y.Nonce++ })
	change(func(y *api.Letter) { y.Nonce ^= 1 << 31 })
	change(func(y *api.Letter) { y.To++ })
	change(func(y *api.Letter) { y.To ^= 1 << 31 })
	change(func(y *api.Letter) { y.Sender += "a" })
	change(func(y *api.Letter) { y.Receiver += "a" })
	change(func(y *api.Letter) { y.Body += "a" })
	change(func(y *api.Letter) { y.Body += "\x00" })
	change(func(y *api.Letter) { y.Sender = "q" + y.Sender })
	change(func(y *api.Letter) { y.Receiver = "q" + y.Receiver })
	change(func(y *api.Letter) { y.From, y.Nonce, y.To = y.To+1, y.From+1, y.Nonce+1 })
	return list
}

func TestSame(t *testing.T) {
	for _, x := range append(letters(), wrongLetters()...) {
		// Other memory, the same texts.
		twin := api.Letter{From: x.From, Nonce: x.Nonce, To: x.To, Sender: strings.Clone(x.Sender), Receiver: strings.Clone(x.Receiver), Body: strings.Clone(x.Body)}
		if !Same(x, twin) || !Same(twin, x) {
			t.Errorf("%+v isn't the same as itself", x)
		}
		for _, y := range changed(x) {
			if Same(x, y) || Same(y, x) {
				t.Errorf("%+v and %+v are the same", x, y)
			}
		}
	}
}

func TestWrittenIsRead(t *testing.T) {
	for _, x := range letters() {
		s, e := Bytes(x)
		if e != api.OK {
			t.Fatalf("%+v: %v", x, e)
		}
		if y, e := Read(s); e != api.OK || !Same(x, y) || x != y {
			t.Errorf("%+v is read as %+v, %v", x, y, e)
		}
	}
}

// TestReadIsWritten: bytes that are near a letter's are read as a letter that is written as they are, or not at all.
func TestReadIsWritten(t *testing.T) {
	read, refused := 0, 0
	check := func(s string) {
		x, e := Read(s)
		if e != api.OK {
			refused++
			if x != (api.Letter{}) {
				t.Errorf("%x: %+v beside %v", s, x, e)
			}
			return
		}
		read++
		if again, e := Bytes(x); e != api.OK || again != s || !Right(x) {
			t.Errorf("%x is read as %+v, and written as %x, %v", s, x, again, e)
		}
	}
	for _, x := range letters()[:40] {
		s := []byte(plain(x))
		for at := range s {
			for _, b := range []byte{0, 1, 2, '0', 'a', 'b', 0xce, 0xff} {
				was := s[at]
				s[at] = b
				check(string(s))
				s[at] = was
			}
		}
	}
	if read == 0 || refused == 0 {
		t.Errorf("%d read, %d refused", read, refused)
	}
}

// TestLettersOfOneLeafAreTheSame: also where fields' bytes stand one behind the other alike.
func TestLettersOfOneLeafAreTheSame(t *testing.T) {
	all := append(letters(), wrongLetters()...)
	all = append(all, changed(all[0])...)
	for _, cut := range []string{"abc", "aaaa", "a\x00\x00\x00\x01b"} {
		for i := range len(cut) + 1 {
			for j := i; j <= len(cut); j++ {
				all = append(all, api.Letter{Sender: cut[:i], Receiver: cut[i:j], Body: cut[j:]})
			}
		}
	}
	l := digest.New()
	first := map[api.Digest]api.Letter{}
	for _, x := range all {
		leaf := Leaf(l, x)
		if y, there := first[leaf]; there && !Same(x, y) {
			t.Errorf("%+v and %+v have one leaf", x, y)
		}
		first[leaf] = x
	}
	if l.Clash() || l.Count() != len(first) {
		t.Errorf("%d inputs of %d leaves", l.Count(), len(first))
	}
}

// TestSenderOfNoRunes: the chapter's example.
func TestSenderOfNoRunes(t *testing.T) {
	x := api.Letter{From: 1, To: 2, Receiver: "b", Body: "hi"}
	if _, e := Bytes(x); e != api.ErrForm || Right(x) {
		t.Error(e)
	}
	refuses(t, "no runes", plain(x), api.ErrForm)
}

// TestNamesAreLayerTwos: rune by rune, as Sender and as Receiver.
func TestNamesAreLayerTwos(t *testing.T) {
	for r := range rune(0x500) {
		for _, s := range []string{string(r), "a" + string(r)} {
			if Right(api.Letter{Sender: s, Receiver: "b"}) != name.Right(s) || Right(api.Letter{Sender: "a", Receiver: s}) != name.Right(s) {
				t.Errorf("%+q", s)
			}
		}
	}
}

// TestEveryCallEnds: at texts of all sorts.
func TestEveryCallEnds(t *testing.T) {
	huge := strings.Repeat("\xff", 1<<20)
	for _, s := range []string{"", "a", huge, word(most), strings.Repeat("\x00", 1000), strings.Repeat("\xff", 12), strings.Repeat("\x7f", 16)} {
		x := api.Letter{From: most, Nonce: most, To: most, Sender: s, Receiver: s, Body: s}
		Right(x)
		Bytes(x)
		Leaf(nil, x)
		Leaf(digest.New(), x)
		Same(x, x)
		Same(x, api.Letter{})
		Read(s)
		Read(plain(x))
	}
}
