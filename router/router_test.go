package router

import (
	"encoding/binary"
	"math"
	"math/rand"
	"slices"
	"strconv"
	"strings"
	"testing"

	"pontoon/api"
	"pontoon/purse"
)

const (
	most = math.MaxUint64
	end  = math.MaxUint32
)

// word, long, text: the bytes of numbers and of a text, by the library.
func word(n uint32) string { return string(binary.BigEndian.AppendUint32(nil, n)) }

func long(n uint64) string { return string(binary.BigEndian.AppendUint64(nil, n)) }

func text(s string) string { return word(uint32(len(s))) + s }

// The bytes of payloads, of those that may not be, too.
func transfer(origin uint32, called, to string, n uint64) string {
	return "\x01" + word(origin) + text(called) + text(to) + long(n)
}

func saying(from, s string) string { return "\x02" + text(from) + text(s) }

func detail(origin uint32, called string, most uint64) string {
	return "\x03" + word(origin) + text(called) + long(most)
}

// letter: of the other router, from a chain.
func letter(from uint32, body string) api.Letter {
	return api.Letter{From: from, To: 1, Sender: "pier", Receiver: "router", Body: body}
}

func has(origin uint32, called, owner string, n uint64) api.Holding {
	return api.Holding{Origin: origin, Token: called, Owner: owner, Amount: n}
}

// some: a purse of chain 1, with two tokens of its own, two of chain 2, one of chain 3.
func some() api.Purse {
	return api.Purse{
		Tokens: []api.Token{
			{Origin: 1, Name: "gold", Cap: 3},
			{Origin: 1, Name: "mint", Cap: 30, Locked: 20, Unlocked: 8},
			{Origin: 2, Name: "gold", Cap: most},
			{Origin: 2, Name: "mint", Cap: 50, Minted: 16, Burned: 4},
			{Origin: 3, Name: "mint", Cap: 9, Minted: 5},
		},
		Holdings: []api.Holding{
			has(1, "mint", "ada", 20),
			has(1, "mint", "bob", 1),
			has(2, "mint", "ada", 5),
			has(2, "mint", "αβ", 7),
			has(3, "mint", "ada", 5),
		},
	}
}

// changed: some purse, but for what is changed in it.
func changed(changes ...func(p *api.Purse)) api.Purse {
	p := some()
	for _, change := range changes {
		change(&p)
	}
	return p
}

// shelf: so many tokens of chain 0, in their order.
func shelf(n int) api.Purse {
	var p api.Purse
	for i := range n {
		p.Tokens = append(p.Tokens, api.Token{Name: "m" + string(rune('α'+i/9)) + string(rune('a'+i%9)), Cap: 9})
	}
	return p
}

// rights: purses that may be.
func rights() []api.Purse {
	full := changed(func(p *api.Purse) {
		p.Tokens[1].Locked, p.Tokens[1].Unlocked = most, most-20
		p.Tokens[3].Cap, p.Tokens[3].Minted, p.Tokens[3].Burned = most, most-5, most-20
		p.Holdings[0].Amount, p.Holdings[2].Amount = most-5, most-5
	})
	return []api.Purse{{}, {Tokens: []api.Token{}, Holdings: []api.Holding{}}, some(), full, shelf(31), shelf(32)}
}

// wrongs: purses that may not be.
func wrongs() []api.Purse {
	return []api.Purse{
		shelf(33),
		odd(),
		changed(func(p *api.Purse) { slices.Reverse(p.Tokens) }),
		changed(func(p *api.Purse) { slices.Reverse(p.Holdings) }),
		changed(func(p *api.Purse) { p.Tokens = nil }),
		changed(func(p *api.Purse) { p.Tokens[1].Unlocked, p.Tokens[3].Burned = 21, most }),
		changed(func(p *api.Purse) { p.Holdings[0].Amount, p.Holdings[2].Owner = 0, "" }),
	}
}

// odd: a purse in which keys come twice, out of order, and tokens of no name.
func odd() api.Purse {
	return api.Purse{
		Tokens: []api.Token{
			{Origin: 2, Name: "mint", Cap: 30, Minted: 20},
			{Origin: 1, Name: "Mint", Cap: 7},
			{Origin: 1, Name: "mint", Cap: 8, Locked: 10},
			{Origin: 2, Name: "mint", Cap: 40, Minted: 39},
			{Origin: 1, Name: "", Cap: 5},
			{Origin: 2, Name: "Mint", Cap: 50, Minted: 50},
			{Origin: 1, Name: "mint", Cap: 9, Locked: 70},
		},
		Holdings: []api.Holding{
			has(2, "mint", "ada", 4), has(1, "Mint", "ada", 6), has(1, "mint", "Ada", 7), has(2, "Mint", "ada", 8), has(2, "mint", "ada", 99), has(1, "", "", 3),
		},
	}
}

func purses() []api.Purse { return append(rights(), wrongs()...) }

// keep: a purse with room behind its lists, and a look whether all of that is as it was.
func keep(p api.Purse) (api.Purse, func() bool) {
	known := append(slices.Clone(p.Tokens), api.Token{Name: "room"}, api.Token{Name: "room"})
	had := append(slices.Clone(p.Holdings), api.Holding{Owner: "room"}, api.Holding{Owner: "room"})
	knownWere, hadWere := slices.Clone(known), slices.Clone(had)
	return api.Purse{Tokens: known[:len(p.Tokens)], Holdings: had[:len(p.Holdings)]}, func() bool {
		return slices.Equal(known, knownWere) && slices.Equal(had, hadWere)
	}
}

// scribble: writes all over a purse's lists, the room behind them, too.
func scribble(p api.Purse) {
	known, had := p.Tokens[:cap(p.Tokens)], p.Holdings[:cap(p.Holdings)]
	for i := range known {
		known[i] = api.Token{Name: "scribble"}
	}
	for i := range had {
		had[i] = api.Holding{Owner: "scribble"}
	}
}

// same: but for whether a list without elements is nil.
func same(p, q api.Purse) bool {
	return slices.Equal(p.Tokens, q.Tokens) && slices.Equal(p.Holdings, q.Holdings)
}

// answer: a purse and what stands beside it: bytes or a payload.
type answer struct {
	p api.Purse
	y any
	e api.Errno
}

func expect(t *testing.T, told string, got, want answer) {
	t.Helper()
	if got.e != want.e {
		t.Errorf("%s: %v, wanted %v", told, got.e, want.e)
	}
	if got.y != want.y {
		t.Errorf("%s: %#v, wanted %#v", told, got.y, want.y)
	}
	if !same(got.p, want.p) {
		t.Errorf("%s: %+v, wanted %+v", told, got.p, want.p)
	}
}

// sent: what Send answers; it is told a nonce and a signature, that are nothing to it.
func sent(p api.Purse, here uint32, from string, origin uint32, called, to string, n uint64) answer {
	c := api.Send{From: from, Origin: origin, Token: called, To: to, Amount: n, Nonce: 5, Sig: api.Sig{Index: -1, Parts: []api.Digest{{}}}}
	q, body, e := Send(p, here, c)
	return answer{q, body, e}
}

// done: what Handle answers of a letter of the other router from chain 2, on chain 1.
func done(p api.Purse, body string) answer {
	q, y, e := Handle(p, 1, "pier", letter(2, body))
	return answer{q, y, e}
}

func TestName(t *testing.T) {
	if Name != "router" {
		t.Error(Name)
	}
}

func TestSendOfItsOwnIsLocked(t *testing.T) {
	p := changed(func(p *api.Purse) { p.Tokens[1].Locked, p.Holdings[0].Amount = 27, 13 })
	expect(t, "some", sent(some(), 1, "ada", 1, "mint", "bob", 7),
		answer{p, "\x01\x00\x00\x00\x01\x00\x00\x00\x04mint\x00\x00\x00\x03bob\x00\x00\x00\x00\x00\x00\x00\x07", api.OK})
	p = changed(func(p *api.Purse) { p.Tokens[1].Locked, p.Holdings = 40, p.Holdings[1:] })
	expect(t, "all, to itself", sent(some(), 1, "ada", 1, "mint", "ada", 20), answer{p, transfer(1, "mint", "ada", 20), api.OK})
	p = changed(func(p *api.Purse) { p.Tokens[3].Locked, p.Holdings[3].Amount = 6, 1 })
	expect(t, "on chain 2", sent(some(), 2, "αβ", 2, "mint", "αβγδεζηθικλμ", 6), answer{p, transfer(2, "mint", "αβγδεζηθικλμ", 6), api.OK})
	rich := changed(func(p *api.Purse) { p.Tokens[1].Locked, p.Tokens[1].Unlocked, p.Holdings[0].Amount = 0, 0, most })
	p = changed(func(p *api.Purse) {
		p.Tokens[1].Locked, p.Tokens[1].Unlocked, p.Holdings = most, 0, p.Holdings[1:]
	})
	expect(t, "the greatest amount", sent(rich, 1, "ada", 1, "mint", "b", most), answer{p, transfer(1, "mint", "b", most), api.OK})
}

func TestSendOfAnothersIsBurned(t *testing.T) {
	p := changed(func(p *api.Purse) { p.Tokens[3].Burned, p.Holdings[2].Amount = 6, 3 })
	expect(t, "some", sent(some(), 1, "ada", 2, "mint", "bob", 2),
		answer{p, "\x01\x00\x00\x00\x02\x00\x00\x00\x04mint\x00\x00\x00\x03bob\x00\x00\x00\x00\x00\x00\x00\x02", api.OK})
	p = changed(func(p *api.Purse) { p.Tokens[4].Burned, p.Holdings = 5, p.Holdings[:4] })
	expect(t, "all of a third chain's", sent(some(), 1, "ada", 3, "mint", "zoe", 5), answer{p, transfer(3, "mint", "zoe", 5), api.OK})
	p = changed(func(p *api.Purse) { p.Tokens[1].Burned, p.Holdings[0].Amount = 7, 13 })
	expect(t, "of chain 1 on another one", sent(some(), end, "ada", 1, "mint", "bob", 7), answer{p, transfer(1, "mint", "bob", 7), api.OK})
	zero := api.Purse{Tokens: []api.Token{{Name: "mint"}}, Holdings: []api.Holding{has(0, "mint", "ada", 2)}}
	p = api.Purse{Tokens: []api.Token{{Name: "mint", Burned: 1}}, Holdings: []api.Holding{has(0, "mint", "ada", 1)}}
	expect(t, "of chain 0", sent(zero, 1, "ada", 0, "mint", "b", 1), answer{p, transfer(0, "mint", "b", 1), api.OK})
}

func TestSendErrors(t *testing.T) {
	lots := changed(func(p *api.Purse) { p.Tokens[1].Locked, p.Tokens[3].Burned = most-3, most-3 })
	for _, c := range []struct {
		told       string
		p          api.Purse
		from       string
		origin     uint32
		called, to string
		n          uint64
		wanted     api.Errno
	}{
		{"no such token", some(), "ada", 1, "zinc", "bob", 1, api.ErrToken},
		{"of none but another chain", changed(func(p *api.Purse) { p.Tokens = p.Tokens[2:] }), "ada", 1, "mint", "bob", 1, api.ErrToken},
		{"of no such chain", some(), "ada", end, "mint", "bob", 1, api.ErrToken},
		{"of no name", some(), "ada", 1, "Mint", "bob", 1, api.ErrToken},
		{"of an empty purse", api.Purse{}, "ada", 1, "mint", "bob", 1, api.ErrToken},
		{"more than is held here", some(), "ada", 1, "mint", "bob", 21, api.ErrUnder},
		{"more than is held of another's", some(), "ada", 2, "mint", "bob", 6, api.ErrUnder},
		{"the greatest amount", some(), "ada", 2, "mint", "bob", most, api.ErrUnder},
		{"by nobody", some(), "zoe", 1, "mint", "bob", 1, api.ErrUnder},
		{"by no name", some(), "Ada", 2, "mint", "bob", 1, api.ErrUnder},
		{"more than can be locked", lots, "ada", 1, "mint", "bob", 4, api.ErrOver},
		{"more than can be burned", lots, "ada", 2, "mint", "bob", 4, api.ErrOver},
		{"nothing", some(), "ada", 1, "mint", "bob", 0, api.ErrForm},
		{"nothing of another's", some(), "ada", 2, "mint", "bob", 0, api.ErrForm},
		{"nothing, by nobody", some(), "Zoe", 2, "mint", "bob", 0, api.ErrForm},
		{"to none", some(), "ada", 1, "mint", "", 1, api.ErrForm},
		{"to no name", some(), "ada", 1, "mint", "Bob", 1, api.ErrForm},
		{"to a long one", some(), "ada", 2, "mint", "abcdefghijklm", 1, api.ErrForm},
		{"to one that is no text", some(), "ada", 2, "mint", "a\xff", 5, api.ErrForm},
		{"no such token, to no name", some(), "ada", 1, "zinc", "Bob", 0, api.ErrToken},
		{"too much, to no name", some(), "ada", 1, "mint", "Bob", 21, api.ErrUnder},
		{"more than can be locked, to no name", lots, "ada", 1, "mint", "Bob", 4, api.ErrOver},
		{"more than can be burned, to no name", lots, "ada", 2, "mint", "", 4, api.ErrOver},
		{"a token of no name that is there", odd(), "ada", 1, "Mint", "bob", 6, api.ErrForm},
		{"and of another chain", odd(), "ada", 2, "Mint", "bob", 8, api.ErrForm},
		{"and of the empty one", odd(), "", 1, "", "bob", 3, api.ErrForm},
	} {
		expect(t, c.told, sent(c.p, 1, c.from, c.origin, c.called, c.to, c.n), answer{c.p, "", c.wanted})
	}
}

// TestSendOfAnyName: who sends it is layer 14's, and needn't be a name.
func TestSendOfAnyName(t *testing.T) {
	p := odd()
	p.Tokens[2].Locked, p.Holdings[2].Amount = 15, 2
	expect(t, "no name's", sent(odd(), 1, "Ada", 1, "mint", "bob", 5), answer{p, transfer(1, "mint", "bob", 5), api.OK})
	p = odd()
	p.Tokens[0].Burned, p.Holdings = 4, p.Holdings[1:]
	expect(t, "the first ones change", sent(odd(), 1, "ada", 2, "mint", "bob", 4), answer{p, transfer(2, "mint", "bob", 4), api.OK})
}

func TestSay(t *testing.T) {
	for _, c := range []struct {
		from, said string
		wanted     api.Errno
	}{
		{"ada", "hi", api.OK},
		{"a", "", api.OK},
		{"αβγδεζηθικλμ", strings.Repeat("漢", 64), api.OK},
		{"a23456789012", strings.Repeat("😀", 64), api.OK},
		{"", "hi", api.ErrForm},
		{"Ada", "hi", api.ErrForm},
		{"1a", "hi", api.ErrForm},
		{"abcdefghijklm", "hi", api.ErrForm},
		{"ada", strings.Repeat("x", 65), api.ErrForm},
		{"ada", "a\n", api.ErrForm},
		{"ada", "\x7f", api.ErrForm},
		{"ada", "\xff", api.ErrForm},
		{"", "", api.ErrForm},
		{strings.Repeat("a", 70000), strings.Repeat("x", 70000), api.ErrForm},
	} {
		want := ""
		if c.wanted == api.OK {
			want = saying(c.from, c.said)
		}
		s, e := Say(api.Say{From: c.from, Text: c.said, Nonce: 7, Sig: api.Sig{Index: -1}})
		if s != want || e != c.wanted {
			t.Errorf("%q says %q: %q, %v", c.from, c.said, s, e)
		}
	}
}

func TestTell(t *testing.T) {
	unfull := changed(func(p *api.Purse) { p.Tokens[0].Cap, p.Tokens[1].Cap = 0, most })
	for _, c := range []struct {
		told   string
		p      api.Purse
		here   uint32
		called string
		want   string
		wanted api.Errno
	}{
		{"one", some(), 1, "mint", "\x03\x00\x00\x00\x01\x00\x00\x00\x04mint\x00\x00\x00\x00\x00\x00\x00\x1e", api.OK},
		{"another one", some(), 1, "gold", detail(1, "gold", 3), api.OK},
		{"of chain 2 there", some(), 2, "gold", detail(2, "gold", most), api.OK},
		{"none at all", unfull, 1, "gold", detail(1, "gold", 0), api.OK},
		{"the greatest", unfull, 1, "mint", detail(1, "mint", most), api.OK},
		{"of chain 0", shelf(32), 0, "mαb", detail(0, "mαb", 9), api.OK},
		{"no such token", some(), 1, "zinc", "", api.ErrToken},
		{"another chain's alone", some(), 3, "gold", "", api.ErrToken},
		{"no such chain", some(), end, "mint", "", api.ErrToken},
		{"no name", some(), 1, "Mint", "", api.ErrToken},
		{"none", some(), 1, "", "", api.ErrToken},
		{"of an empty purse", api.Purse{}, 1, "mint", "", api.ErrToken},
		{"the first one's", odd(), 1, "mint", detail(1, "mint", 8), api.OK},
		{"the first one's there", odd(), 2, "mint", detail(2, "mint", 30), api.OK},
		{"one of no name that is there", odd(), 1, "Mint", "", api.ErrForm},
		{"and the empty one", odd(), 1, "", "", api.ErrForm},
	} {
		for _, from := range []string{"ada", "", "Nobody"} {
			s, e := Tell(c.p, c.here, api.Tell{From: from, Token: c.called, Nonce: 5, Sig: api.Sig{Index: 99}})
			if s != c.want || e != c.wanted {
				t.Errorf("%s: %q, %v", c.told, s, e)
			}
		}
	}
}

// bodies: of every payload, of those that are wrong in the purses, and of none.
func bodies() []string {
	list := []string{"", "?", "\x00", "\x01", "\x02", "\x03", "\x04", "hi", saying("ada", "hi"), saying("a", ""), saying("A", "hi"), saying("a", "\n"), saying("ada", "hi") + "\x00"}
	for _, origin := range []uint32{0, 1, 2, 3, end} {
		for _, called := range []string{"gold", "mint", "zinc", "αβ", "Mint", ""} {
			for _, n := range []uint64{0, 1, 5, 12, 13, 38, 39, 50, most - 20, most} {
				list = append(list, transfer(origin, called, "ada", n), transfer(origin, called, "zoe", n), transfer(origin, called, "Bob", n), detail(origin, called, n))
			}
		}
	}
	return list
}

func TestHandleOfAnothersLetter(t *testing.T) {
	for _, body := range []string{saying("ada", "hi"), transfer(1, "mint", "bob", 1), transfer(2, "mint", "bob", 1), transfer(3, "mint", "bob", 1), detail(2, "mint", 1), "?", ""} {
		for _, c := range []struct{ remote, sender, receiver string }{
			{"pier", "other", "router"},
			{"pier", "", "router"},
			{"pier", "Pier", "router"},
			{"pier", "pier1", "router"},
			{"pier", "pie", "router"},
			{"pier", "router", "router"},
			{"pier", "pier", "other"},
			{"pier", "pier", ""},
			{"pier", "pier", "Router"},
			{"pier", "pier", "router1"},
			{"pier", "pier", "pier"},
			{"pier", "router", "pier"},
			{"", "", "router"},
			{"", "pier", "router"},
			{"", "", ""},
			{"router", "pier", "router"},
		} {
			x := letter(2, body)
			x.Sender, x.Receiver = c.sender, c.receiver
			p, y, e := Handle(some(), 1, c.remote, x)
			expect(t, "of "+strconv.Quote(c.sender)+" to "+strconv.Quote(c.receiver), answer{p, y, e}, answer{some(), nil, api.ErrRouter})
		}
	}
}

// TestHandleOfWhatIsEnrolled: it is told by its letters alone; neither the number of the letter nor where it goes is asked.
func TestHandleOfWhatIsEnrolled(t *testing.T) {
	for _, remote := range []string{"pier", "router", "Pier", "\xff", strings.Repeat("a", 100)} {
		for _, to := range []uint32{0, 1, 2, end} {
			x := api.Letter{From: 2, Nonce: to, To: to, Sender: remote, Receiver: "router", Body: saying("ada", "hi")}
			p, y, e := Handle(some(), 1, remote, x)
			expect(t, strconv.QuoteToASCII(remote), answer{p, y, e}, answer{some(), api.Saying{From: "ada", Text: "hi"}, api.OK})
		}
	}
}

func TestHandleOfNoPayload(t *testing.T) {
	whole := transfer(1, "mint", "bob", 1)
	for _, body := range []string{
		"", "?", "\x00", "\x01", "\x02", "\x03", "\x04", "\x04" + whole[1:], whole + "\x00", whole[:len(whole)-1], "\x02" + whole[1:],
		transfer(1, "mint", "bob", 0), transfer(3, "Mint", "bob", 1), transfer(1, "mint", "Bob", 1), transfer(7, "", "", 0), transfer(1, strings.Repeat("a", 49), "bob", 1),
		saying("Ada", "hi"), saying("ada", "\n"), saying("ada", strings.Repeat("x", 65)), saying("ada", strings.Repeat("x", 257)),
		detail(2, "Mint", 1), detail(1, "", 1), detail(2, "mint", 1) + "\x01", strings.Repeat("\x01", 70000),
	} {
		expect(t, strconv.QuoteToASCII(body[:min(len(body), 60)]), done(some(), body), answer{some(), nil, api.ErrHandler})
	}
}

func TestHandleOfTransferHome(t *testing.T) {
	p := changed(func(p *api.Purse) { p.Tokens[1].Unlocked, p.Holdings[1].Amount = 19, 12 })
	expect(t, "some", done(some(), transfer(1, "mint", "bob", 11)), answer{p, api.Transfer{Origin: 1, Token: "mint", To: "bob", Amount: 11}, api.OK})
	p = changed(func(p *api.Purse) {
		p.Tokens[1].Unlocked, p.Holdings = 20, slices.Insert(p.Holdings, 2, has(1, "mint", "zoe", 12))
	})
	expect(t, "all that is out, to a new one", done(some(), transfer(1, "mint", "zoe", 12)), answer{p, api.Transfer{Origin: 1, Token: "mint", To: "zoe", Amount: 12}, api.OK})
	rich := changed(func(p *api.Purse) { p.Holdings[0].Amount = most - 3 })
	for _, c := range []struct {
		told   string
		p      api.Purse
		body   string
		wanted api.Errno
	}{
		{"no such token", some(), transfer(1, "zinc", "bob", 1), api.ErrToken},
		{"more than is out", some(), transfer(1, "mint", "bob", 13), api.ErrUnder},
		{"of what isn't out", some(), transfer(1, "gold", "bob", 1), api.ErrUnder},
		{"the greatest amount", some(), transfer(1, "mint", "bob", most), api.ErrUnder},
		{"more than can be held", rich, transfer(1, "mint", "ada", 4), api.ErrOver},
		{"of an empty purse", api.Purse{}, transfer(1, "mint", "ada", 1), api.ErrToken},
	} {
		expect(t, c.told, done(c.p, c.body), answer{c.p, nil, c.wanted})
	}
}

func TestHandleOfTransferAway(t *testing.T) {
	p := changed(func(p *api.Purse) { p.Tokens[3].Minted, p.Holdings[2].Amount = 27, 16 })
	expect(t, "some", done(some(), transfer(2, "mint", "ada", 11)), answer{p, api.Transfer{Origin: 2, Token: "mint", To: "ada", Amount: 11}, api.OK})
	p = changed(func(p *api.Purse) {
		p.Tokens[3].Minted, p.Holdings = 54, slices.Insert(p.Holdings, 3, has(2, "mint", "zoe", 38))
	})
	expect(t, "up to the cap, to a new one", done(some(), transfer(2, "mint", "zoe", 38)), answer{p, api.Transfer{Origin: 2, Token: "mint", To: "zoe", Amount: 38}, api.OK})
	rich := changed(func(p *api.Purse) { p.Holdings[2].Amount = most - 3 })
	lots := changed(func(p *api.Purse) { p.Tokens[3].Minted, p.Tokens[3].Burned = most-3, most-3 })
	for _, c := range []struct {
		told   string
		p      api.Purse
		body   string
		wanted api.Errno
	}{
		{"no such token", some(), transfer(2, "zinc", "bob", 1), api.ErrToken},
		{"above the cap", some(), transfer(2, "mint", "bob", 39), api.ErrCap},
		{"more than can be minted", some(), transfer(2, "mint", "bob", most-15), api.ErrOver},
		{"just not more, but above the cap", some(), transfer(2, "mint", "bob", most-16), api.ErrCap},
		{"more than can be minted, below the cap", lots, transfer(2, "mint", "bob", 4), api.ErrOver},
		{"more than can be held", rich, transfer(2, "mint", "ada", 4), api.ErrOver},
		{"of an empty purse", api.Purse{}, transfer(2, "mint", "ada", 1), api.ErrToken},
	} {
		expect(t, c.told, done(c.p, c.body), answer{c.p, nil, c.wanted})
	}
}

// TestHandleOfTransferByOrigin: where it is said to be from decides, not what the purse has.
func TestHandleOfTransferByOrigin(t *testing.T) {
	for _, origin := range []uint32{0, 3, 4, end} {
		expect(t, "neither", done(some(), transfer(origin, "mint", "ada", 1)), answer{some(), nil, api.ErrToken})
	}
	p, y, e := Handle(some(), 1, "pier", letter(3, transfer(2, "mint", "ada", 1)))
	expect(t, "a letter from a third chain", answer{p, y, e}, answer{some(), nil, api.ErrToken})
	p, y, e = Handle(some(), 1, "pier", letter(3, transfer(3, "mint", "ada", 1)))
	q := changed(func(p *api.Purse) { p.Tokens[4].Minted, p.Holdings[4].Amount = 6, 6 })
	expect(t, "and its own token", answer{p, y, e}, answer{q, api.Transfer{Origin: 3, Token: "mint", To: "ada", Amount: 1}, api.OK})
	p, y, e = Handle(some(), 1, "pier", letter(1, transfer(1, "mint", "ada", 12)))
	q = changed(func(p *api.Purse) { p.Tokens[1].Unlocked, p.Holdings[0].Amount = 20, 32 })
	expect(t, "from here to here", answer{p, y, e}, answer{q, api.Transfer{Origin: 1, Token: "mint", To: "ada", Amount: 12}, api.OK})
	p, y, e = Handle(some(), 1, "pier", letter(1, transfer(1, "mint", "ada", 13)))
	expect(t, "from here to here, more than is out", answer{p, y, e}, answer{some(), nil, api.ErrUnder})
	first := odd()
	first.Tokens[2].Unlocked, first.Holdings = 10, append(first.Holdings, has(1, "mint", "ada", 10))
	got := done(odd(), transfer(1, "mint", "ada", 10))
	if got.e != api.OK || !slices.Equal(got.p.Tokens, first.Tokens) || purse.Held(got.p, 1, "mint", "ada") != 10 {
		t.Error("the first one changes", got)
	}
	expect(t, "what the first one has out", done(odd(), transfer(1, "mint", "ada", 11)), answer{odd(), nil, api.ErrUnder})
}

func TestHandleOfSaying(t *testing.T) {
	for _, p := range purses() {
		for _, s := range []string{"", "hi", strings.Repeat("😀", 64)} {
			expect(t, s, done(p, saying("ada", s)), answer{p, api.Saying{From: "ada", Text: s}, api.OK})
			q, y, e := Handle(p, 1, "pier", letter(1, saying("ω1", s)))
			expect(t, "from here", answer{q, y, e}, answer{p, api.Saying{From: "ω1", Text: s}, api.OK})
		}
	}
}

func TestHandleOfDetail(t *testing.T) {
	for _, n := range []uint64{0, 3, 12, 50, 51, most} {
		p := changed(func(p *api.Purse) { p.Tokens[3].Cap = n })
		expect(t, "one that is there", done(some(), detail(2, "mint", n)), answer{p, api.Detail{Origin: 2, Token: "mint", Cap: n}, api.OK})
		p = changed(func(p *api.Purse) {
			p.Tokens = slices.Insert(p.Tokens, 4, api.Token{Origin: 2, Name: "zinc", Cap: n})
		})
		expect(t, "a new one", done(some(), detail(2, "zinc", n)), answer{p, api.Detail{Origin: 2, Token: "zinc", Cap: n}, api.OK})
		p = api.Purse{Tokens: []api.Token{{Origin: 2, Name: "mint", Cap: n}}}
		expect(t, "the first one", done(api.Purse{}, detail(2, "mint", n)), answer{p, api.Detail{Origin: 2, Token: "mint", Cap: n}, api.OK})
		p = odd()
		p.Tokens[0].Cap = n
		expect(t, "the first of a key", done(odd(), detail(2, "mint", n)), answer{p, api.Detail{Origin: 2, Token: "mint", Cap: n}, api.OK})
	}
	p, y, e := Handle(some(), end, "pier", letter(1, detail(1, "mint", 4)))
	q := changed(func(p *api.Purse) { p.Tokens[1].Cap = 4 })
	expect(t, "elsewhere", answer{p, y, e}, answer{q, api.Detail{Origin: 1, Token: "mint", Cap: 4}, api.OK})
}

func TestHandleOfDetailErrors(t *testing.T) {
	for _, called := range []string{"mint", "zinc"} {
		for _, origin := range []uint32{0, 1, 3, end} {
			expect(t, "not its own", done(some(), detail(origin, called, 4)), answer{some(), nil, api.ErrToken})
		}
		p, y, e := Handle(some(), 1, "pier", letter(1, detail(1, called, 4)))
		expect(t, "from here to here", answer{p, y, e}, answer{some(), nil, api.ErrToken})
	}
	full := changed(func(p *api.Purse) { p.Tokens = append(shelf(27).Tokens, p.Tokens...) })
	expect(t, "one too many", done(full, detail(2, "zinc", 4)), answer{full, nil, api.ErrMany})
	expect(t, "one too many, not its own", done(full, detail(3, "zinc", 4)), answer{full, nil, api.ErrToken})
	p := purse.Twin(full)
	p.Tokens[30].Cap = 4
	expect(t, "one that is there, of as many as may be", done(full, detail(2, "mint", 4)), answer{p, api.Detail{Origin: 2, Token: "mint", Cap: 4}, api.OK})
	p = changed(func(p *api.Purse) {
		p.Tokens = slices.Insert(append(shelf(26).Tokens, p.Tokens...), 30, api.Token{Origin: 2, Name: "zinc", Cap: 4})
	})
	some := changed(func(p *api.Purse) { p.Tokens = append(shelf(26).Tokens, p.Tokens...) })
	expect(t, "the last one that may be", done(some, detail(2, "zinc", 4)), answer{p, api.Detail{Origin: 2, Token: "zinc", Cap: 4}, api.OK})
	expect(t, "of more than may be", done(shelf(33), detail(2, "zinc", 4)), answer{shelf(33), nil, api.ErrMany})
}

// TestNewCapCounts: from then on.
func TestNewCapCounts(t *testing.T) {
	a := done(some(), detail(2, "mint", 12))
	expect(t, "all that may be is out", done(a.p, transfer(2, "mint", "ada", 1)), answer{a.p, nil, api.ErrCap})
	a = done(a.p, detail(2, "mint", 13))
	b := done(a.p, transfer(2, "mint", "ada", 1))
	if b.e != api.OK || purse.Held(b.p, 2, "mint", "ada") != 6 {
		t.Error(b)
	}
}

// deed: something that is asked of a purse.
type deed struct {
	told string
	do   func(p api.Purse) answer
}

func deeds() []deed {
	var list []deed
	for _, body := range bodies() {
		for _, from := range []uint32{0, 1, 2, end} {
			for _, here := range []uint32{1, 2} {
				list = append(list, deed{"handle " + strconv.QuoteToASCII(body), func(p api.Purse) answer {
					q, y, e := Handle(p, here, "pier", letter(from, body))
					return answer{q, y, e}
				}})
			}
		}
		list = append(list, deed{"handle of none", func(p api.Purse) answer {
			q, y, e := Handle(p, 1, "", letter(2, body))
			return answer{q, y, e}
		}})
	}
	for _, c := range []struct {
		from, called, to string
	}{{"ada", "mint", "bob"}, {"αβ", "mint", "ada"}, {"Ada", "mint", "ada"}, {"ada", "gold", "bob"}, {"ada", "Mint", "bob"}, {"ada", "mint", "Bob"}, {"", "", ""}} {
		for _, origin := range []uint32{0, 1, 2, 3, end} {
			for _, n := range []uint64{0, 1, 5, 20, most - 5, most} {
				list = append(list, deed{"send " + c.from + " " + c.called + " " + c.to, func(p api.Purse) answer { return sent(p, 1, c.from, origin, c.called, c.to, n) }})
			}
		}
	}
	return list
}

// TestPurses: are those that are said to be right, and no others?
func TestPurses(t *testing.T) {
	for i, p := range purses() {
		if purse.Right(p) != (i < len(rights())) {
			t.Error(i, p)
		}
	}
}

// TestAnyDeed: at all purses and deeds that are at hand: arguments stay, errors leave the purse as it is with nothing beside it, answers have memory of their own, what was right is right.
func TestAnyDeed(t *testing.T) {
	all := deeds()
	found := map[api.Errno]int{}
	for i, p := range purses() {
		kept, whole := keep(p)
		for _, d := range all {
			a, b := d.do(kept), d.do(kept)
			found[a.e]++
			if a.e != b.e || a.y != b.y || !same(a.p, b.p) {
				t.Fatalf("%d, %s: once %v, once %v", i, d.told, a, b)
			}
			if a.e != api.OK && (!same(a.p, p) || a.y != nil && a.y != "") {
				t.Fatalf("%d, %s: %v, but with %v, %v", i, d.told, a.e, a.y, a.p)
			}
			if a.e == api.OK && (a.y == nil || a.y == "") {
				t.Fatalf("%d, %s: nothing beside the purse", i, d.told)
			}
			if purse.Right(p) && !purse.Right(a.p) && !overburned(a.p) {
				t.Fatalf("%d, %s: isn't right any more", i, d.told)
			}
			was := purse.Twin(b.p)
			scribble(a.p)
			if !whole() {
				t.Fatalf("%d, %s: the argument was changed, or its memory is in the answer", i, d.told)
			}
			if !same(b.p, was) {
				t.Fatalf("%d, %s: two answers share memory", i, d.told)
			}
		}
	}
	for _, e := range []api.Errno{api.OK, api.ErrRouter, api.ErrHandler, api.ErrToken, api.ErrUnder, api.ErrOver, api.ErrCap, api.ErrForm, api.ErrMany} {
		if found[e] == 0 {
			t.Errorf("%v never came about", e)
		}
	}
}

// overburned: was more burned than minted, as where a Burn takes what was granted?
func overburned(p api.Purse) bool {
	return slices.ContainsFunc(p.Tokens, func(t api.Token) bool { return t.Burned > t.Minted })
}

// side: a chain, as far as its router sees it.
type side struct {
	id uint32
	p  api.Purse
}

// post: a letter of one side's router is handled on the other one.
func (s *side) post(from side, body string) (any, api.Errno) {
	x := api.Letter{From: from.id, To: s.id, Sender: Name, Receiver: Name, Body: body}
	p, y, e := Handle(s.p, s.id, Name, x)
	s.p = p
	return y, e
}

// begun: a chain with a token of its own, of which ada has 50, and bob 30.
func begun(id uint32) side {
	p, _ := purse.Enlist(api.Purse{}, id, "mint", 60)
	p, _ = purse.Grant(p, id, "mint", "ada", 50)
	p, _ = purse.Grant(p, id, "mint", "bob", 30)
	return side{id, p}
}

// TestThereAndBack: a token is told, goes there, and comes back to the one named.
func TestThereAndBack(t *testing.T) {
	here, there := begun(1), begun(2)
	body, e := Tell(here.p, 1, api.Tell{From: "ada", Token: "mint"})
	y, f := there.post(here, body)
	if k, ok := purse.Known(there.p, 1, "mint"); e != api.OK || f != api.OK || !ok || k.Cap != 60 || y != (api.Detail{Origin: 1, Token: "mint", Cap: 60}) {
		t.Fatal("told", e, f, k, y)
	}
	a := sent(here.p, 1, "ada", 1, "mint", "zoe", 20)
	here.p = a.p
	_, f = there.post(here, a.y.(string))
	if a.e != api.OK || f != api.OK || purse.Held(there.p, 1, "mint", "zoe") != 20 || purse.Held(here.p, 1, "mint", "ada") != 30 {
		t.Fatal("there", a, f, there.p)
	}
	a = sent(there.p, 2, "zoe", 1, "mint", "bob", 20)
	there.p = a.p
	_, f = here.post(there, a.y.(string))
	if a.e != api.OK || f != api.OK || purse.Held(there.p, 1, "mint", "zoe") != 0 || purse.Held(here.p, 1, "mint", "bob") != 50 {
		t.Fatal("back", a, f, here.p)
	}
	if x, _ := purse.Known(here.p, 1, "mint"); x.Locked != 20 || x.Unlocked != 20 || x.Minted != 0 || x.Burned != 0 {
		t.Error("here", x)
	}
	if x, _ := purse.Known(there.p, 1, "mint"); x.Minted != 20 || x.Burned != 20 || x.Locked != 0 || x.Unlocked != 0 {
		t.Error("there", x)
	}
}

// TestSentAndHandledAtHome: what is sent and handled again on its own chain is locked, and unlocked, by as much.
func TestSentAndHandledAtHome(t *testing.T) {
	for n := uint64(1); n <= 50; n++ {
		s := begun(1)
		a := sent(s.p, 1, "ada", 1, "mint", "zoe", n)
		s.p = a.p
		y, e := s.post(s, a.y.(string))
		x, _ := purse.Known(s.p, 1, "mint")
		if a.e != api.OK || e != api.OK || y != (api.Transfer{Origin: 1, Token: "mint", To: "zoe", Amount: n}) ||
			x.Locked != n || x.Unlocked != n || purse.Held(s.p, 1, "mint", "ada") != 50-n || purse.Held(s.p, 1, "mint", "zoe") != n {
			t.Errorf("%d: %v, %v, %v", n, a.e, e, s.p)
		}
	}
}

// counts: what a token and somebody on a side have.
type counts struct{ locked, unlocked, minted, burned, held uint64 }

func (s side) count(origin uint32, who string) counts {
	x, _ := purse.Known(s.p, origin, "mint")
	return counts{x.Locked, x.Unlocked, x.Minted, x.Burned, purse.Held(s.p, origin, "mint", who)}
}

// TestWalk: many tokens go both ways, and back: each by as much as was locked or burned where it set out is minted or unlocked where it comes, to the one named; and what is out of a token is all that stands elsewhere.
func TestWalk(t *testing.T) {
	r := rand.New(rand.NewSource(18))
	sides := []side{begun(1), begun(2)}
	for i := range sides {
		body, _ := Tell(sides[i].p, sides[i].id, api.Tell{Token: "mint"})
		if _, e := sides[1-i].post(sides[i], body); e != api.OK {
			t.Fatal(e)
		}
	}
	whos := []string{"ada", "bob", "zoe"}
	went := map[bool]int{}
	for step := range 6000 {
		i := r.Intn(2)
		from, to := &sides[i], &sides[1-i]
		origin, who, whom, n := uint32(1+r.Intn(2)), whos[r.Intn(3)], whos[r.Intn(3)], uint64(1+r.Intn(20))
		left, there := from.count(origin, who), to.count(origin, whom)
		a := sent(from.p, from.id, who, origin, "mint", whom, n)
		if a.e != api.OK {
			if a.e != api.ErrUnder || left.held >= n {
				t.Fatalf("step %d: %v", step, a.e)
			}
			continue
		}
		kept := from.p
		from.p = a.p
		if _, e := to.post(*from, a.y.(string)); e != api.OK {
			// Above the cap no more may stand there: as if it hadn't been sent.
			if e != api.ErrCap || origin != from.id || there.minted-there.burned+n <= 60 {
				t.Fatalf("step %d: %v", step, e)
			}
			from.p = kept
			continue
		}
		went[origin == from.id]++
		left.held, there.held = left.held-n, there.held+n
		if origin == from.id {
			left.locked, there.minted = left.locked+n, there.minted+n
		} else {
			left.burned, there.unlocked = left.burned+n, there.unlocked+n
		}
		if from.count(origin, who) != left || to.count(origin, whom) != there {
			t.Fatalf("step %d: %v and %v, wanted %v and %v", step, from.count(origin, who), to.count(origin, whom), left, there)
		}
		backed(t, sides)
	}
	if went[true] < 500 || went[false] < 500 {
		t.Error("too few went", went)
	}
}

// backed: is as much locked out at home as is minted out elsewhere, which is all that is held there; and all of it as much as ever?
func backed(t *testing.T, sides []side) {
	t.Helper()
	for i, s := range sides {
		other := sides[1-i]
		at, _ := purse.Known(s.p, s.id, "mint")
		away, _ := purse.Known(other.p, s.id, "mint")
		_, locked := purse.Out(at)
		minted, _ := purse.Out(away)
		here, there := purse.Supply(s.p, s.id, "mint"), purse.Supply(other.p, s.id, "mint")
		if locked != minted || there.Low != minted || here.Low+locked != 80 || here.High != 0 || there.High != 0 {
			t.Fatalf("of chain %d: %d locked, %d minted, %d here, %d there", s.id, locked, minted, here.Low, there.Low)
		}
	}
}

// TestExample: the chapter's.
func TestExample(t *testing.T) {
	p, y, e := Handle(api.Purse{}, 2, "other", api.Letter{From: 1, To: 2, Sender: "router", Receiver: "router", Body: saying("ada", "hi")})
	expect(t, "another name than the enrolled one", answer{p, y, e}, answer{api.Purse{}, nil, api.ErrRouter})
}
