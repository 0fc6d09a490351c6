package call

import (
	"crypto/sha256"
	"encoding/binary"
	"encoding/hex"
	"math"
	"reflect"
	"slices"
	"strings"
	"testing"

	"pontoon/api"
	"pontoon/digest"
	"pontoon/sha"
)

// word, long, text, list: bytes by the library.
func word(n uint32) string { return string(binary.BigEndian.AppendUint32(nil, n)) }

func long(n uint64) string { return string(binary.BigEndian.AppendUint64(nil, n)) }

func text(s string) string { return word(uint32(len(s))) + s }

func list(l []api.Digest) string {
	s := word(uint32(len(l)))
	for _, d := range l {
		s += string(d[:])
	}
	return s
}

func sigBytes(g api.Sig) string {
	return word(uint32(g.Index)) + list(g.Parts) + list(g.Others) + list(g.Path)
}

func updateBytes(u api.Update) string {
	return word(u.Home) + string(u.Old[:]) + string(u.New[:]) + sigBytes(u.Sig)
}

func stopBytes(s api.Stop) string {
	return word(s.Home) + string(s.Key[:]) + word(uint32(s.Watcher)) + sigBytes(s.Sig)
}

func letterBytes(x api.Letter) string {
	return word(x.From) + word(x.Nonce) + word(x.To) + text(x.Sender) + text(x.Receiver) + text(x.Body)
}

// plain: a call's bytes, whatever its letter is.
func plain(c any) string {
	switch x := c.(type) {
	case api.Pay:
		return "\x01" + text(x.From) + text(x.To) + long(x.Amount) + long(x.Nonce) + sigBytes(x.Sig)
	case api.Send:
		return "\x02" + text(x.From) + word(x.Origin) + text(x.Token) + text(x.To) + long(x.Amount) + long(x.Nonce) + sigBytes(x.Sig)
	case api.Say:
		return "\x03" + text(x.From) + text(x.Text) + long(x.Nonce) + sigBytes(x.Sig)
	case api.Tell:
		return "\x04" + text(x.From) + text(x.Token) + long(x.Nonce) + sigBytes(x.Sig)
	case api.Submit:
		return "\x05" + text(updateBytes(x.Update))
	case api.Improper:
		return "\x06" + text(updateBytes(x.Update)) + text(x.By)
	case api.Double:
		return "\x07" + text(updateBytes(x.A)) + text(updateBytes(x.B)) + text(x.By)
	case api.Accept:
		return "\x08" + text(updateBytes(x.Update))
	case api.Doubled:
		return "\x09" + text(updateBytes(x.A)) + text(updateBytes(x.B))
	case api.Halt:
		return "\x0a" + text(stopBytes(x.Stop))
	case api.Prove:
		return "\x0b" + string(x.Leaf[:]) + word(x.Index) + list(x.Branch)
	case api.Process:
		return "\x0c" + text(letterBytes(x.Letter))
	}
	panic("no call")
}

func some(n int) api.Digest {
	return sha256.Sum256(binary.BigEndian.AppendUint64(nil, uint64(n)))
}

func somes(n, from int) []api.Digest {
	l := make([]api.Digest, n)
	for i := range l {
		l[i] = some(from + i)
	}
	return l
}

func sigOf(n int) api.Sig {
	return api.Sig{Index: n, Parts: somes(n%33, n), Others: somes((n+1)%33, n+100), Path: somes((n+2)%33, n+200)}
}

func updateOf(n int) api.Update {
	return api.Update{Home: uint32(n), Old: some(n), New: some(n + 1), Sig: sigOf(n)}
}

func stopOf(n int) api.Stop {
	return api.Stop{Home: uint32(n), Key: some(n), Watcher: n + 1, Sig: sigOf(n)}
}

func letterOf(n int) api.Letter {
	return api.Letter{From: uint32(n), Nonce: uint32(n) + 1, To: uint32(n) + 2, Sender: "ada", Receiver: "bob", Body: strings.Repeat("b", n%301)}
}

// one: a call of each type, in order, that may be read; no field of it is nothing.
func one(n int) []any {
	return []any{
		api.Pay{From: "ada", To: "bob", Amount: uint64(n) + 1<<40, Nonce: uint64(n) + 2, Sig: sigOf(n)},
		api.Send{From: "ada", Origin: uint32(n), Token: "mint", To: "bob", Amount: uint64(n) + 1<<50, Nonce: uint64(n) + 3, Sig: sigOf(n)},
		api.Say{From: "ada", Text: "Hi " + strings.Repeat("x", n%100), Nonce: uint64(n) + 4, Sig: sigOf(n)},
		api.Tell{From: "ada", Token: "gold", Nonce: uint64(n) + 5, Sig: sigOf(n)},
		api.Submit{Update: updateOf(n)},
		api.Improper{Update: updateOf(n), By: "eve"},
		api.Double{A: updateOf(n), B: updateOf(n + 1), By: "eve"},
		api.Accept{Update: updateOf(n)},
		api.Doubled{A: updateOf(n), B: updateOf(n + 1)},
		api.Halt{Stop: stopOf(n)},
		api.Prove{Leaf: some(n), Index: uint32(n), Branch: somes(n%65, n)},
		api.Process{Letter: letterOf(n)},
	}
}

// zeros: a call of each type with nothing in it.
func zeros() []any {
	return []any{api.Pay{}, api.Send{}, api.Say{}, api.Tell{}, api.Submit{}, api.Improper{}, api.Double{}, api.Accept{}, api.Doubled{}, api.Halt{}, api.Prove{}, api.Process{}}
}

// ends: calls that may be read, with all that may be read at its ends.
func ends() []any {
	name, said := strings.Repeat("\xff", 48), strings.Repeat("\x00", 256)
	full := api.Sig{Index: math.MaxInt32, Parts: somes(32, 1), Others: somes(32, 2), Path: somes(32, 3)}
	const word, long = math.MaxUint32, math.MaxUint64
	u := api.Update{Home: word, Old: some(1), New: some(1), Sig: full}
	return []any{
		api.Pay{From: name, To: name, Amount: long, Nonce: long, Sig: full},
		api.Send{From: name, Origin: word, Token: name, To: name, Amount: long, Nonce: long, Sig: full},
		api.Say{From: name, Text: said, Nonce: long, Sig: full},
		api.Tell{From: name, Token: name, Nonce: long, Sig: full},
		api.Submit{Update: u},
		api.Improper{Update: u, By: name},
		api.Double{A: u, B: u, By: name},
		api.Accept{Update: u},
		api.Doubled{A: u, B: u},
		api.Halt{Stop: api.Stop{Home: word, Key: some(1), Watcher: math.MaxInt32, Sig: full}},
		api.Prove{Leaf: some(1), Index: word, Branch: somes(64, 1)},
		api.Process{Letter: api.Letter{From: word, Nonce: word, To: word, Sender: "αβγδεζηθικλμ", Receiver: "abcdefghijkl", Body: strings.Repeat("\xff", 300)}},
	}
}

// readable: calls of all types that may be read.
func readable() []any {
	l := append(ends(), zeros()[:11]...)
	for _, n := range []int{1, 2, 7, 15, 16, 31, 32, 63, 64, 300, 1 << 20} {
		l = append(l, one(n)...)
	}
	return l
}

// unreadable: calls that have bytes, but of which something is too long or too great to be read; and the error then.
func unreadable() map[api.Errno][]any {
	name, said := strings.Repeat("a", 49), strings.Repeat("a", 257)
	m := map[api.Errno][]any{}
	m[api.ErrLong] = []any{
		api.Pay{From: name}, api.Pay{To: name},
		api.Send{From: name}, api.Send{Token: name}, api.Send{To: name},
		api.Say{From: name}, api.Say{Text: said}, api.Tell{From: name}, api.Tell{Token: name},
		api.Improper{By: name}, api.Double{By: name},
		api.Prove{Branch: somes(65, 0)}, api.Prove{Branch: somes(1000, 0)},
		api.Submit{Update: api.Update{Sig: api.Sig{Path: somes(33, 0)}}},
		api.Submit{Update: api.Update{Sig: api.Sig{Path: somes(200, 0)}}},
		api.Halt{Stop: api.Stop{Sig: api.Sig{Parts: somes(33, 0)}}},
		api.Halt{Stop: api.Stop{Sig: api.Sig{Parts: somes(200, 0)}}},
	}
	for _, g := range []api.Sig{{Parts: somes(33, 0)}, {Others: somes(33, 0)}, {Path: somes(33, 0)}} {
		for _, c := range zeros()[:4] {
			m[api.ErrLong] = append(m[api.ErrLong], With(c, g))
		}
	}
	for _, n := range []int{-1, math.MinInt32, math.MaxInt32 + 1, math.MaxUint32} {
		g := api.Sig{Index: n}
		for _, c := range zeros()[:4] {
			m[api.ErrRange] = append(m[api.ErrRange], With(c, g))
		}
		u := api.Update{Sig: g}
		m[api.ErrRange] = append(m[api.ErrRange],
			api.Submit{Update: u}, api.Improper{Update: u}, api.Double{A: u}, api.Double{B: u}, api.Accept{Update: u}, api.Doubled{A: u}, api.Doubled{B: u},
			api.Halt{Stop: api.Stop{Sig: g}}, api.Halt{Stop: api.Stop{Watcher: n}})
	}
	return m
}

// odd: calls whose texts are of all sorts.
func odd() []any {
	var l []any
	for _, s := range []string{"", "A", "1", "\x00", "\xff\xfe", "漢", "a b\n", strings.Repeat("\xff", 48), strings.Repeat("a", 49), strings.Repeat("a", 257), strings.Repeat("a", 70000)} {
		l = append(l, api.Pay{From: s, To: s}, api.Send{From: s, Token: s, To: s}, api.Say{From: s, Text: s}, api.Tell{From: s, Token: s}, api.Improper{By: s}, api.Double{By: s})
	}
	return l
}

// calls: all of them, which have bytes.
func calls() []any {
	l := append(readable(), odd()...)
	for _, e := range []api.Errno{api.ErrLong, api.ErrRange} {
		l = append(l, unreadable()[e]...)
	}
	return l
}

// wrongLetters: those that may not be.
func wrongLetters() []api.Letter {
	return []api.Letter{
		{}, {Sender: "a"}, {Receiver: "a"}, {Sender: "A", Receiver: "b"}, {Sender: "a", Receiver: "1"}, {Sender: "a\xff", Receiver: "b"},
		{Sender: strings.Repeat("a", 13), Receiver: "b"}, {Sender: "a", Receiver: strings.Repeat("a", 49)}, {Sender: "a", Receiver: "b", Body: strings.Repeat("b", 301)},
		{Sender: "a", Receiver: "b", Body: strings.Repeat("b", 600)},
	}
}

type (
	ownPay     api.Pay
	ownProve   struct{ api.Prove }
	withMethod struct{ api.Pay }
)

func (withMethod) Error() string { panic("it isn't asked") }

// others: what is no call.
func others() []any {
	pay, prove := api.Pay{From: "a"}, api.Prove{Branch: somes(1, 1)}
	return []any{
		nil, 0, 1, "", "\x01", true, math.NaN(), api.OK, api.ErrArg, []any{}, []any{pay}, []byte{1}, map[string]int{}, func() {}, make(chan int),
		&pay, &prove, (*api.Pay)(nil), (*api.Send)(nil), (*api.Process)(nil), (*api.Halt)(nil), ownPay(pay), ownProve{prove}, withMethod{pay}, &withMethod{pay},
		struct{}{}, [1]api.Pay{pay}, api.Letter{}, api.Update{}, api.Stop{}, api.Sig{}, api.Transfer{}, api.Saying{}, api.Detail{}, struct{ Update api.Update }{},
	}
}

// TestKnown: made by another program.
func TestKnown(t *testing.T) {
	pay := api.Pay{From: "ada", To: "bob", Amount: 258, Nonce: 7, Sig: api.Sig{Index: 3, Path: []api.Digest{{1}}}}
	s, e := Bytes(pay)
	wanted := "01" + "00000003616461" + "00000003626f62" + "0000000000000102" + "0000000000000007" +
		"00000003" + "00000000" + "00000000" + "00000001" + "01" + strings.Repeat("00", 31)
	if got := hex.EncodeToString([]byte(s)); e != api.OK || got != wanted {
		t.Error(got, e)
	}
	s, e = Bytes(api.Prove{Leaf: api.Digest{9}, Index: 258})
	if got := hex.EncodeToString([]byte(s)); e != api.OK || got != "0b09"+strings.Repeat("00", 31)+"0000010200000000" {
		t.Error(got, e)
	}
	for i, c := range []struct {
		chain  uint32
		c      any
		wanted string
	}{
		{1, pay, "670436433779cdee7fe64b6e525cf1f7d6712a1993928abca9fa8ddfd89f130e"},
		{2, pay, "6a593038f287e055da64b7dcd3f554828f4bb473b607d988f0cd6d4a5f19839b"},
		{1, api.Send{From: "a", Origin: 1, Token: "mint", To: "b", Amount: 5, Nonce: 6}, "75e88def2e1e450bfb940207e345fa4da82f2f863365baec34d756413769e6c0"},
		{1, api.Say{From: "a", Text: "hi", Nonce: 1}, "ecd8f32bb50066a05ba132cd7ab21f1860058dc82d5222d502e6101d13bd6632"},
		{1, api.Tell{From: "a", Token: "mint", Nonce: 1}, "6d0bfc0e14e359ae1477045bb36af0fbe744661f432876ca40b9ffc79043d481"},
	} {
		if got := sha.Text(Digest(nil, c.chain, c.c)); got != c.wanted {
			t.Errorf("%d: %s", i, got)
		}
	}
}

func TestTagWeightAndWord(t *testing.T) {
	words := strings.Fields("pay send say tell submit improper double accept doubled halt prove process")
	weights := []uint64{1, 3, 2, 2, 4, 6, 8, 4, 8, 4, 4, 5}
	for i := range 12 {
		for _, c := range []any{zeros()[i], one(5)[i], ends()[i]} {
			if Tag(c) != i+1 || Weight(c) != weights[i] {
				t.Errorf("%T: %d, %d", c, Tag(c), Weight(c))
			}
		}
		if Word(i+1) != words[i] {
			t.Errorf("%d: %s", i+1, Word(i+1))
		}
	}
	for _, c := range calls() {
		if Tag(c) != int(plain(c)[0]) || Weight(c) != weights[Tag(c)-1] {
			t.Errorf("%T: %d, %d", c, Tag(c), Weight(c))
		}
	}
	for _, c := range others() {
		if Tag(c) != 0 || Weight(c) != 0 {
			t.Errorf("%T: %d, %d", c, Tag(c), Weight(c))
		}
	}
	for _, tag := range []int{0, -1, -12, 13, 14, 255, 256, 257, 1 << 32, 1<<32 + 1, math.MaxInt, math.MinInt, math.MinInt + 1} {
		if Word(tag) != "" {
			t.Errorf("%d: %s", tag, Word(tag))
		}
	}
}

func TestBytes(t *testing.T) {
	for _, c := range calls() {
		if s, e := Bytes(c); e != api.OK || s != plain(c) {
			t.Errorf("%T: %x, %v, wanted %x", c, s, e, plain(c))
		}
	}
	for _, c := range others() {
		if s, e := Bytes(c); e != api.ErrArg || s != "" {
			t.Errorf("%T: %x, %v", c, s, e)
		}
	}
	for _, x := range wrongLetters() {
		if s, e := Bytes(api.Process{Letter: x}); e != api.ErrForm || s != "" {
			t.Errorf("%+v: %x, %v", x, s, e)
		}
	}
}

// refuses: bytes aren't read, and nothing stands beside the error.
func refuses(t *testing.T, what, s string, wanted api.Errno) {
	t.Helper()
	if c, e := Read(s); e != wanted || c != nil {
		t.Errorf("%s: %T, %v, wanted %v", what, c, e, wanted)
	}
}

func TestReadOfTooFewBytes(t *testing.T) {
	for _, c := range append(one(1), one(31)...) {
		s := plain(c)
		for n := range len(s) {
			refuses(t, "too few", s[:n], api.ErrShort)
		}
	}
	for _, c := range ends() {
		refuses(t, "too few", plain(c)[:len(plain(c))-1], api.ErrShort)
	}
}

func TestReadOfBytesLeft(t *testing.T) {
	for _, c := range readable() {
		for _, more := range []string{"\x00", "a", word(0), plain(c)} {
			refuses(t, "bytes left", plain(c)+more, api.ErrForm)
		}
	}
}

// TestReadOfNoTag: known ahead of all that stands behind it.
func TestReadOfNoTag(t *testing.T) {
	for b := range 256 {
		tag := string([]byte{byte(b)})
		if 1 <= b && b <= 12 {
			refuses(t, "a tag alone", tag, api.ErrShort)
			continue
		}
		refuses(t, "no tag alone", tag, api.ErrForm)
		refuses(t, "no tag, a length", tag+word(math.MaxUint32), api.ErrForm)
		for _, c := range one(3) {
			refuses(t, "no tag", tag+plain(c)[1:], api.ErrForm)
		}
	}
}

func TestReadOfWhatMayNotBeRead(t *testing.T) {
	for e, l := range unreadable() {
		for _, c := range l {
			refuses(t, "unreadable", plain(c), e)
		}
	}
}

// tooLong: for every text.
var tooLong = []uint32{1 << 16, 1 << 31, math.MaxUint32}

// TestLongest: each text's length by itself, at the most that it may be and above it.
func TestLongest(t *testing.T) {
	for _, c := range []struct {
		what, ahead string
		most        uint32
	}{
		{"pay, from", "\x01", 48},
		{"pay, to", "\x01" + text("a"), 48},
		{"send, from", "\x02", 48},
		{"send, token", "\x02" + text("a") + word(1), 48},
		{"send, to", "\x02" + text("a") + word(1) + text("b"), 48},
		{"say, from", "\x03", 48},
		{"say, text", "\x03" + text("a"), 256},
		{"tell, from", "\x04", 48},
		{"tell, token", "\x04" + text("a"), 48},
		{"submit", "\x05", 4096},
		{"improper", "\x06", 4096},
		{"improper, by", "\x06" + text("a"), 48},
		{"double, a", "\x07", 4096},
		{"double, b", "\x07" + text("a"), 4096},
		{"double, by", "\x07" + text("a") + text("b"), 48},
		{"accept", "\x08", 4096},
		{"doubled, a", "\x09", 4096},
		{"doubled, b", "\x09" + text("a"), 4096},
		{"halt", "\x0a", 4096},
		{"prove", "\x0b" + string(make([]byte, 36)), 64},
		{"process", "\x0c", 512},
	} {
		refuses(t, c.what+": the most", c.ahead+word(c.most), api.ErrShort)
		for _, n := range append(tooLong, c.most+1) {
			refuses(t, c.what+": more", c.ahead+word(n), api.ErrLong)
		}
	}
}

// TestTextsOfTheMost: so long a text is read, and what it is made of is what is wrong then.
func TestTextsOfTheMost(t *testing.T) {
	whole := updateBytes(updateOf(1))
	for _, tag := range []string{"\x05", "\x08"} {
		refuses(t, "bytes left in an update", tag+text(whole+strings.Repeat("a", 4096-len(whole))), api.ErrForm)
		refuses(t, "one more", tag+text(whole+strings.Repeat("a", 4097-len(whole))), api.ErrLong)
	}
	stop := stopBytes(stopOf(1))
	refuses(t, "bytes left in a stop", "\x0a"+text(stop+strings.Repeat("a", 4096-len(stop))), api.ErrForm)
	refuses(t, "one more", "\x0a"+text(stop+strings.Repeat("a", 4097-len(stop))), api.ErrLong)
	x := letterBytes(letterOf(1))
	refuses(t, "bytes left in a letter", "\x0c"+text(x+strings.Repeat("a", 512-len(x))), api.ErrForm)
	refuses(t, "one more", "\x0c"+text(x+strings.Repeat("a", 513-len(x))), api.ErrLong)
}

// TestErrorsInside: those of the texts, the first one's first, and behind all that is wrong outside.
func TestErrorsInside(t *testing.T) {
	right := updateBytes(updateOf(1))
	wrong := map[api.Errno]string{
		api.ErrShort: right[:len(right)-1],
		api.ErrForm:  right + "a",
		api.ErrLong:  updateBytes(api.Update{Sig: api.Sig{Others: somes(33, 0)}}),
		api.ErrRange: updateBytes(api.Update{Sig: api.Sig{Index: -1}}),
	}
	for e, s := range wrong {
		refuses(t, "submit", "\x05"+text(s), e)
		refuses(t, "improper", "\x06"+text(s)+text("a"), e)
		refuses(t, "accept", "\x08"+text(s), e)
		for _, two := range []struct{ tag, by string }{{"\x07", text("a")}, {"\x09", ""}} {
			refuses(t, "the first", two.tag+text(s)+text(right)+two.by, e)
			refuses(t, "the second", two.tag+text(right)+text(s)+two.by, e)
			for _, r := range wrong {
				refuses(t, "both", two.tag+text(s)+text(r)+two.by, e)
				refuses(t, "a length outside", two.tag+text(s)+word(4097), api.ErrLong)
				refuses(t, "few bytes outside", two.tag+text(s)+text(r)[:len(r)], api.ErrShort)
				refuses(t, "bytes left outside", two.tag+text(s)+text(r)+two.by+"a", api.ErrForm)
			}
		}
		refuses(t, "few bytes outside", "\x06"+text(s)+word(1), api.ErrShort)
		refuses(t, "a length outside", "\x06"+text(s)+word(49), api.ErrLong)
		refuses(t, "bytes left outside", "\x06"+text(s)+text("a")+"a", api.ErrForm)
		refuses(t, "bytes left outside", "\x05"+text(s)+"a", api.ErrForm)
		refuses(t, "few bytes outside", "\x08"+text(s)[:len(s)+3], api.ErrShort)
	}
}

// TestErrorsInsideOfStopsAndLetters: those of layers 10 and 9.
func TestErrorsInsideOfStopsAndLetters(t *testing.T) {
	stop := stopBytes(stopOf(1))
	refuses(t, "no stop", "\x0a"+text(""), api.ErrShort)
	refuses(t, "a stop, few bytes", "\x0a"+text(stop[:len(stop)-1]), api.ErrShort)
	refuses(t, "a stop, bytes left", "\x0a"+text(stop+"\x00"), api.ErrForm)
	far := stopBytes(api.Stop{Watcher: -1})
	refuses(t, "a far watcher", "\x0a"+text(far), api.ErrRange)
	refuses(t, "a far watcher, bytes left inside", "\x0a"+text(far+"a"), api.ErrForm)
	refuses(t, "a far watcher, bytes left outside", "\x0a"+text(far)+"a", api.ErrForm)
	x := letterBytes(letterOf(1))
	refuses(t, "no letter", "\x0c"+text(""), api.ErrShort)
	refuses(t, "a letter, few bytes", "\x0c"+text(x[:len(x)-1]), api.ErrShort)
	refuses(t, "a letter, bytes left", "\x0c"+text(x+"\x00"), api.ErrForm)
	refuses(t, "a letter that may not be", "\x0c"+text(letterBytes(api.Letter{Sender: "A", Receiver: "b"})), api.ErrForm)
	refuses(t, "a long sender", "\x0c"+text(letterBytes(api.Letter{Sender: strings.Repeat("a", 49), Receiver: "b"})), api.ErrLong)
	refuses(t, "a long body", "\x0c"+text(letterBytes(api.Letter{Sender: "a", Receiver: "b", Body: strings.Repeat("b", 301)})), api.ErrLong)
	refuses(t, "a long body, bytes left outside", "\x0c"+text(letterBytes(api.Letter{Sender: "a", Receiver: "b", Body: strings.Repeat("b", 301)}))+"a", api.ErrForm)
}

// TestSigErrors: of a signed call, as it is read.
func TestSigErrors(t *testing.T) {
	for _, front := range []string{
		"\x01" + text("a") + text("b") + long(1) + long(2),
		"\x02" + text("a") + word(1) + text("b") + text("c") + long(1) + long(2),
		"\x03" + text("a") + text("b") + long(1),
		"\x04" + text("a") + text("b") + long(1),
	} {
		refuses(t, "no sig", front, api.ErrShort)
		refuses(t, "a far index", front+word(1<<31), api.ErrRange)
		refuses(t, "no parts", front+word(math.MaxInt32), api.ErrShort)
		refuses(t, "many parts", front+word(1)+word(33), api.ErrLong)
		refuses(t, "many others", front+word(1)+word(0)+word(33), api.ErrLong)
		refuses(t, "a long path", front+word(1)+word(0)+word(0)+word(33), api.ErrLong)
		refuses(t, "bytes left", front+word(1)+word(0)+word(0)+word(0)+"a", api.ErrForm)
		if c, e := Read(front + word(1) + word(0) + word(0) + word(0)); e != api.OK || Tag(c) != int(front[0]) {
			t.Errorf("%x: %T, %v", front, c, e)
		}
	}
}

func TestWrittenIsRead(t *testing.T) {
	for _, c := range readable() {
		s, e := Bytes(c)
		if e != api.OK {
			t.Fatalf("%T: %v", c, e)
		}
		d, e := Read(s)
		if e != api.OK || !Same(c, d) || !alike(c, d) {
			t.Errorf("%+v is read as %+v, %v", c, d, e)
		}
	}
	// Of all others it is read as it was, or not at all.
	for _, c := range calls() {
		s, _ := Bytes(c)
		if d, e := Read(s); e == api.OK && !alike(c, d) {
			t.Errorf("%+v is read as %+v", c, d)
		}
	}
}

// alike: by reflection, lists without elements being all the same.
func alike(a, b any) bool {
	return reflect.TypeOf(a) == reflect.TypeOf(b) && reflect.DeepEqual(tidy(a), tidy(b))
}

// tidy: a copy, in which every list without elements is nil, and every other one is new memory.
func tidy(c any) any {
	v := reflect.New(reflect.TypeOf(c)).Elem()
	v.Set(reflect.ValueOf(c))
	eachPart(v, func(part reflect.Value) {
		if l, is := part.Interface().([]api.Digest); is {
			if len(l) == 0 {
				l = nil
			}
			part.Set(reflect.ValueOf(slices.Clone(l)))
		}
	})
	return v.Interface()
}

// eachPart: all fields of a call, and of what is in it.
func eachPart(v reflect.Value, do func(reflect.Value)) {
	if v.Kind() != reflect.Struct {
		do(v)
		return
	}
	for i := range v.NumField() {
		eachPart(v.Field(i), do)
	}
}

// TestReadIsWritten: bytes that are near a call's are read as one that is written as they are, or not at all.
func TestReadIsWritten(t *testing.T) {
	read, refused := 0, 0
	for _, c := range append(append(one(1), zeros()...), one(32)...) {
		s := []byte(plain(c))
		for at := range s {
			if at > 700 {
				break
			}
			for _, b := range []byte{0, 1, 2, 12, 'a', 0xff} {
				was := s[at]
				s[at] = b
				d, e := Read(string(s))
				if e == api.OK {
					read++
					if again, e := Bytes(d); e != api.OK || again != string(s) {
						t.Errorf("%x is read as %+v, and written as %x, %v", s, d, again, e)
					}
				} else if refused++; d != nil {
					t.Errorf("%x: %+v beside %v", s, d, e)
				}
				s[at] = was
			}
		}
	}
	if read == 0 || refused == 0 {
		t.Errorf("%d read, %d refused", read, refused)
	}
}

// isSigned: by the tag.
func isSigned(c any) bool {
	switch c.(type) {
	case api.Pay, api.Send, api.Say, api.Tell:
		return true
	}
	return false
}

func TestSigned(t *testing.T) {
	for _, c := range append(calls(), others()...) {
		who, n, g, ok := Signed(c)
		if !isSigned(c) {
			if ok || who != "" || n != 0 || !reflect.DeepEqual(tidy(g), api.Sig{}) {
				t.Errorf("%T: %q, %d, %+v, %v", c, who, n, g, ok)
			}
			continue
		}
		v := reflect.ValueOf(c)
		if !ok || who != v.FieldByName("From").String() || n != v.FieldByName("Nonce").Uint() || !alike(g, v.FieldByName("Sig").Interface()) {
			t.Errorf("%T: %q, %d, %+v, %v", c, who, n, g, ok)
		}
	}
}

// sigged: a signed call whose Sig is another one, by reflection.
func sigged(c any, g api.Sig) any {
	v := reflect.New(reflect.TypeOf(c)).Elem()
	v.Set(reflect.ValueOf(c))
	v.FieldByName("Sig").Set(reflect.ValueOf(g))
	return v.Interface()
}

func TestWith(t *testing.T) {
	for _, g := range []api.Sig{{}, {Index: 3}, sigOf(5), sigOf(40), {Index: -1, Path: somes(100, 0)}} {
		for _, c := range calls() {
			wanted := c
			if isSigned(c) {
				wanted = sigged(c, g)
			}
			before := tidy(c)
			got := With(c, g)
			if !alike(got, wanted) || !Same(got, wanted) {
				t.Errorf("%T: %+v, wanted %+v", c, got, wanted)
			}
			if !alike(before, c) {
				t.Errorf("%T: what was handed in is another one", c)
			}
		}
		for _, x := range wrongLetters() {
			if got := With(api.Process{Letter: x}, g); got != any(api.Process{Letter: x}) {
				t.Errorf("%+v: %+v", x, got)
			}
		}
		for _, c := range others() {
			got := With(c, g)
			if reflect.TypeOf(got) != reflect.TypeOf(c) {
				t.Errorf("%T is a %T", c, got)
			}
			if c != nil && reflect.TypeOf(c).Comparable() && c == c && got != c {
				t.Errorf("%T is another one", c)
			}
		}
	}
}

// scribble: over all digests of all lists of a call, and over the spare room behind them.
func scribble(c any) {
	if c == nil {
		return
	}
	eachPart(reflect.ValueOf(c), func(part reflect.Value) {
		if l, is := part.Interface().([]api.Digest); is {
			l = l[:cap(l)]
			for i := range l {
				l[i] = api.Digest{0xee, byte(i)}
			}
		}
	})
}

// TestNewMemory: whoever writes to an answer changes neither what was handed in nor another answer.
func TestNewMemory(t *testing.T) {
	for i, c := range one(31) {
		g := sigOf(9)
		before, beforeSig := tidy(c), tidy(g)
		first, second := With(c, g), With(c, g)
		scribble(first)
		if !alike(before, c) || !alike(beforeSig, g) || !alike(second, With(c, g)) {
			t.Errorf("With of a %T shares memory", c)
		}
		_, _, sig, _ := Signed(c)
		_, _, other, _ := Signed(c)
		scribble(sig)
		_, _, wanted, _ := Signed(one(31)[i])
		if !alike(before, c) || !alike(other, wanted) {
			t.Errorf("Signed of a %T shares memory", c)
		}
		read, _ := Read(plain(c))
		again, e := Read(plain(c))
		scribble(read)
		if e != api.OK || !alike(again, c) {
			t.Errorf("Read of a %T shares memory", c)
		}
	}
}

// TestListsOfOneAnswer: none of them reaches into another one.
func TestListsOfOneAnswer(t *testing.T) {
	shared := somes(8, 1)
	g := api.Sig{Parts: shared, Others: shared, Path: shared}
	u := api.Update{Sig: g}
	for _, c := range append(one(8), api.Pay{Sig: g}, api.Double{A: u, B: u}, api.Doubled{A: u, B: u}) {
		read, _ := Read(plain(c))
		_, _, sig, _ := Signed(c)
		for _, answer := range []any{With(c, g), read, sig} {
			var lists [][]api.Digest
			eachPart(reflect.ValueOf(answer), func(part reflect.Value) {
				if l, is := part.Interface().([]api.Digest); is {
					lists = append(lists, l[:cap(l)])
				}
			})
			for i, l := range lists {
				for k := range l {
					l[k] = api.Digest{byte(i)}
				}
			}
			for i, l := range lists {
				if slices.ContainsFunc(l, func(d api.Digest) bool { return d != api.Digest{byte(i)} }) {
					t.Errorf("lists of a %T share memory", c)
				}
			}
		}
	}
}

// TestSpareRoom: what stands behind the lists that are handed in stays.
func TestSpareRoom(t *testing.T) {
	room := func(n int) []api.Digest { return somes(n+2, n)[:n] }
	g := api.Sig{Index: 1, Parts: room(3), Others: room(4), Path: room(5)}
	u := api.Update{Sig: g}
	for _, c := range []any{api.Pay{Sig: g}, api.Say{Sig: g}, api.Submit{Update: u}, api.Double{A: u, B: u}, api.Halt{Stop: api.Stop{Sig: g}}, api.Prove{Branch: g.Path}} {
		Bytes(c)
		Signed(c)
		scribble(With(c, g))
		Digest(nil, 1, c)
		Same(c, c)
	}
	for i, l := range [][]api.Digest{g.Parts, g.Others, g.Path} {
		if !slices.Equal(l[:i+5], somes(i+5, i+3)) {
			t.Errorf("list %d", i)
		}
	}
}

// digestOf: what is signed, by the library.
func digestOf(chain uint32, c any) api.Digest {
	return sha256.Sum256([]byte("\x08" + text(word(chain)) + text(plain(sigged(c, api.Sig{})))))
}

func TestDigest(t *testing.T) {
	for _, chain := range []uint32{0, 1, 2, 256, 1 << 31, math.MaxUint32} {
		for _, c := range append(calls(), others()...) {
			for _, l := range []*digest.Log{nil, digest.New()} {
				var wanted api.Digest
				noted := 0
				if isSigned(c) {
					wanted, noted = digestOf(chain, c), 1
				}
				if got := Digest(l, chain, c); got != wanted {
					t.Errorf("%T: %x, wanted %x", c, got, wanted)
				}
				if l.Has(wanted) != (l != nil && noted == 1) || l != nil && l.Count() != noted {
					t.Errorf("%T: %d noted", c, l.Count())
				}
			}
		}
	}
}

// TestDigestHangsOnNoLog: nor on what a log has noted.
func TestDigestHangsOnNoLog(t *testing.T) {
	l := digest.New()
	for range 3 {
		for _, c := range one(4)[:4] {
			if Digest(l, 1, c) != digestOf(1, c) {
				t.Errorf("%T", c)
			}
		}
	}
	if l.Count() != 4 || l.Clash() {
		t.Error(l.Count())
	}
}

// TestDigestTellsNoSig: whatever it is.
func TestDigestTellsNoSig(t *testing.T) {
	for _, c := range one(4)[:4] {
		for _, g := range []api.Sig{{}, {Index: 1}, {Index: -1}, sigOf(7), {Parts: somes(100, 0)}} {
			if Digest(nil, 1, With(c, g)) != Digest(nil, 1, c) {
				t.Errorf("%T", c)
			}
		}
	}
}

// changes: a call, with each of its parts by itself another one.
func changes(c any) []any {
	var l []any
	count := 0
	eachPart(reflect.ValueOf(c), func(reflect.Value) { count++ })
	for at := range count {
		for way := range 4 {
			v := reflect.New(reflect.TypeOf(c)).Elem()
			v.Set(reflect.ValueOf(tidy(c)))
			i := 0
			eachPart(v, func(part reflect.Value) {
				if i == at {
					change(part, way)
				}
				i++
			})
			l = append(l, v.Interface())
		}
	}
	return l
}

// change: a part, in one of four ways.
func change(v reflect.Value, way int) {
	switch x := v.Interface().(type) {
	case string:
		v.SetString([]string{x + "a", "q" + x, x + "\x00", x + x + "b"}[way])
	case int:
		v.SetInt([]int64{int64(x) + 1, int64(x) ^ 1<<31, int64(x) ^ 1<<32, int64(^x)}[way])
	case uint32:
		v.SetUint(uint64([]uint32{x + 1, x ^ 1<<31, ^x, x - 1}[way]))
	case uint64:
		v.SetUint([]uint64{x + 1, x ^ 1<<63, x ^ 1<<32, ^x}[way])
	case api.Digest:
		x[way*10]++
		v.Set(reflect.ValueOf(x))
	case []api.Digest:
		v.Set(reflect.ValueOf(changeList(x, way)))
	default:
		panic("another part")
	}
}

func changeList(l []api.Digest, way int) []api.Digest {
	switch {
	case way == 0 || len(l) < 2:
		return append(slices.Clone(l), api.Digest{byte(way)})
	case way == 1:
		return l[:len(l)-1]
	case way == 2:
		l = slices.Clone(l)
		l[len(l)-1][31]++
		return l
	}
	l = slices.Clone(l)
	slices.Reverse(l)
	return l
}

func TestSame(t *testing.T) {
	all := append(append(zeros(), one(5)...), ends()...)
	for _, x := range wrongLetters() {
		all = append(all, api.Process{Letter: x})
	}
	for _, c := range all {
		if !Same(c, c) || !Same(c, tidy(c)) || !Same(tidy(c), c) {
			t.Errorf("%T isn't the same as itself", c)
		}
		for _, d := range changes(c) {
			if Same(c, d) || Same(d, c) {
				t.Errorf("%+v and %+v are the same", c, d)
			}
		}
		for _, d := range others() {
			if Same(c, d) || Same(d, c) {
				t.Errorf("%T and a %T are the same", c, d)
			}
		}
	}
	for _, c := range all {
		for _, d := range all {
			if Same(c, d) != alike(c, d) {
				t.Errorf("%+v, %+v", c, d)
			}
		}
	}
}

// TestSameOfOneTypeAlone: also where all fields are alike.
func TestSameOfOneTypeAlone(t *testing.T) {
	u := updateOf(3)
	if Same(api.Submit{Update: u}, api.Accept{Update: u}) || Same(api.Double{A: u, B: u}, api.Doubled{A: u, B: u}) || Same(api.Submit{Update: u}, api.Improper{Update: u}) {
		t.Error("unlike types are the same")
	}
}

// TestSameOfEmptyLists: nil or empty makes no difference.
func TestSameOfEmptyLists(t *testing.T) {
	none := []api.Digest{}
	empty := api.Sig{Parts: none, Others: none, Path: none}
	for _, two := range [][2]any{
		{api.Pay{}, api.Pay{Sig: empty}}, {api.Submit{}, api.Submit{Update: api.Update{Sig: empty}}},
		{api.Halt{}, api.Halt{Stop: api.Stop{Sig: empty}}}, {api.Prove{}, api.Prove{Branch: none}},
	} {
		if !Same(two[0], two[1]) || !Same(two[1], two[0]) {
			t.Errorf("%T", two[0])
		}
	}
}

// TestSameOfNoCalls: not even of one and itself, also where the language can't hold them against each other.
func TestSameOfNoCalls(t *testing.T) {
	for _, c := range others() {
		for _, d := range others() {
			if Same(c, d) {
				t.Errorf("%T, %T", c, d)
			}
		}
		if Same(c, c) {
			t.Errorf("%T", c)
		}
	}
}

// TestUnlikeSigned: signed calls that differ in anything but the Sig sign unlike digests.
func TestUnlikeSigned(t *testing.T) {
	l := digest.New()
	var all []any
	for _, c := range append(append(zeros()[:4], one(5)[:4]...), ends()[:4]...) {
		all = append(append(all, c), changes(c)...)
	}
	// Where fields' bytes stand one behind the other alike.
	for _, cut := range []string{"abc", "aaaa", "a\x00\x00\x00\x01b"} {
		for i := range len(cut) + 1 {
			all = append(all, api.Pay{From: cut[:i], To: cut[i:]}, api.Say{From: cut[:i], Text: cut[i:]}, api.Tell{From: cut[:i], Token: cut[i:]})
			for j := i; j <= len(cut); j++ {
				all = append(all, api.Send{From: cut[:i], Token: cut[i:j], To: cut[j:]})
			}
		}
	}
	type of struct {
		chain uint32
		c     any
	}
	first := map[api.Digest]of{}
	for _, chain := range []uint32{1, 2, 256} {
		for _, c := range all {
			d := Digest(l, chain, c)
			bare := With(c, api.Sig{})
			if y, there := first[d]; there && (y.chain != chain || !Same(y.c, bare)) {
				t.Errorf("%d %+v and %d %+v sign one digest", chain, bare, y.chain, y.c)
			}
			first[d] = of{chain, bare}
		}
	}
	if l.Clash() || l.Count() != len(first) {
		t.Errorf("%d inputs of %d digests", l.Count(), len(first))
	}
}

// TestExamples: the chapter's.
func TestExamples(t *testing.T) {
	if Weight(api.Send{}) != 3 || Tag(nil) != 0 {
		t.Error(Weight(api.Send{}), Tag(nil))
	}
}

// TestEveryCallEnds: at texts and things of all sorts.
func TestEveryCallEnds(t *testing.T) {
	huge := strings.Repeat("\xff", 1<<20)
	for b := range 16 {
		for _, s := range []string{"", "a", huge, strings.Repeat("\x00", 5000), word(1) + huge, word(48) + huge} {
			Read(string([]byte{byte(b)}) + s)
		}
	}
	g := api.Sig{Index: math.MinInt, Parts: somes(1000, 0)}
	u := api.Update{Home: math.MaxUint32, Sig: g}
	for _, c := range append(others(),
		api.Pay{From: huge, To: huge, Sig: g}, api.Send{From: huge, Token: huge, To: huge, Sig: g}, api.Say{From: huge, Text: huge, Sig: g}, api.Tell{From: huge, Token: huge, Sig: g},
		api.Submit{Update: u}, api.Improper{Update: u, By: huge}, api.Double{A: u, B: u, By: huge}, api.Accept{Update: u}, api.Doubled{A: u, B: u},
		api.Halt{Stop: api.Stop{Watcher: math.MinInt, Sig: g}}, api.Prove{Branch: g.Parts}, api.Process{Letter: api.Letter{Sender: huge, Receiver: huge, Body: huge}}) {
		s, _ := Bytes(c)
		Read(s)
		Tag(c)
		Weight(c)
		Signed(c)
		Same(c, With(c, g))
		Same(c, nil)
		Same(nil, c)
		Digest(nil, math.MaxUint32, c)
		Digest(digest.New(), 0, c)
	}
	for _, tag := range []int{math.MinInt, -1, 0, 13, math.MaxInt} {
		Word(tag)
	}
}
