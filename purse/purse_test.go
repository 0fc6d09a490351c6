package purse

import (
	"math"
	"math/big"
	"math/rand"
	"slices"
	"strconv"
	"testing"

	"pontoon/amount"
	"pontoon/api"
	"pontoon/name"
)

const most = math.MaxUint64

// deed: something that is done to a purse.
type deed struct {
	told string
	do   func(api.Purse) (api.Purse, api.Errno)
}

// two: a call of a token and somebody.
type two func(p api.Purse, origin uint32, called, who string, n uint64) (api.Purse, api.Errno)

var (
	numbers = []uint64{0, 1, 5, 7, 13, 20, 1 << 63, most - 7, most}
	origins = []uint32{0, 1, 2, math.MaxUint32}
	tokens  = []string{"", "gold", "mint", "Mint", "αβ"}
	whos    = []string{"", "ada", "bob", "αβ", "Ada", "a b", "\xff", "abcdefghijklm"}
)

// deeds: all calls that answer a purse, at all tokens, names and numbers above.
func deeds() []deed {
	list := []deed{{"twin", func(p api.Purse) (api.Purse, api.Errno) { return Twin(p), api.OK }}}
	for _, origin := range origins {
		for _, called := range tokens {
			for _, n := range numbers {
				told := strconv.Quote(called) + " of " + strconv.Itoa(int(origin)) + ", " + strconv.FormatUint(n, 10)
				list = append(list, deed{"enlist " + told, func(p api.Purse) (api.Purse, api.Errno) { return Enlist(p, origin, called, n) }})
				list = append(list, deedsOf(told, origin, called, n)...)
			}
		}
	}
	return list
}

func deedsOf(told string, origin uint32, called string, n uint64) []deed {
	var list []deed
	for _, who := range whos {
		for kind, do := range map[string]two{"grant ": Grant, "lock ": Lock, "unlock ": Unlock, "mint ": Mint, "burn ": Burn} {
			list = append(list, deed{kind + told + " " + who, func(p api.Purse) (api.Purse, api.Errno) { return do(p, origin, called, who, n) }})
		}
		for _, to := range whos[:3] {
			list = append(list, deed{"move " + told + " " + who + " " + to, func(p api.Purse) (api.Purse, api.Errno) { return Move(p, origin, called, who, to, n) }})
		}
	}
	return list
}

func has(origin uint32, called, owner string, n uint64) api.Holding {
	return api.Holding{Origin: origin, Token: called, Owner: owner, Amount: n}
}

// some: of 1 a token of which there is some of all, of 2 another one.
func some() api.Purse {
	return api.Purse{
		Tokens: []api.Token{
			{Origin: 1, Name: "gold", Cap: 3},
			{Origin: 1, Name: "mint", Cap: 30, Locked: 20, Unlocked: 8, Minted: 25, Burned: 4},
			{Origin: 2, Name: "mint", Cap: 50, Minted: 12},
		},
		Holdings: []api.Holding{
			has(1, "mint", "ada", 20),
			has(1, "mint", "bob", 1),
			has(2, "mint", "ada", 5),
			has(2, "mint", "αβ", 7),
		},
	}
}

// shelf: so many tokens, in their order.
func shelf(n int) []api.Token {
	list := make([]api.Token, n)
	for i := range list {
		list[i] = api.Token{Origin: uint32(i / 3), Name: "m" + string(rune('a'+i%3)), Cap: 9}
	}
	return list
}

// rights: purses that may be.
func rights() []api.Purse {
	full := api.Purse{Tokens: []api.Token{{Origin: 1, Name: "mint", Cap: most, Locked: most, Minted: most}}}
	ends := api.Purse{
		Tokens:   []api.Token{{Origin: 1, Name: "mint", Cap: most, Locked: most - 5, Unlocked: most - 5, Minted: most - 5, Burned: most - 5}, {Origin: math.MaxUint32, Name: "mint", Cap: 0}},
		Holdings: []api.Holding{has(1, "mint", "ada", most), has(1, "mint", "bob", most), has(math.MaxUint32, "mint", "ada", most)},
	}
	return []api.Purse{
		{},
		{Tokens: []api.Token{}, Holdings: []api.Holding{}},
		some(),
		{Tokens: shelf(api.MaxTokens)},
		{Tokens: shelf(api.MaxTokens - 1)},
		full,
		ends,
	}
}

// changed: some purse, but for what is changed in it.
func changed(change func(p *api.Purse)) api.Purse {
	p := some()
	change(&p)
	return p
}

// wrongs: purses that may not be.
func wrongs() []api.Purse {
	return []api.Purse{
		{Tokens: shelf(api.MaxTokens + 1)},
		{Tokens: shelf(api.MaxTokens + 30)},
		changed(func(p *api.Purse) { p.Tokens[0], p.Tokens[1] = p.Tokens[1], p.Tokens[0] }),
		changed(func(p *api.Purse) { p.Tokens[1], p.Tokens[2] = p.Tokens[2], p.Tokens[1] }),
		changed(func(p *api.Purse) { p.Tokens[0].Name = "mint" }),
		changed(func(p *api.Purse) { p.Tokens[0].Name = "Gold" }),
		changed(func(p *api.Purse) { p.Tokens[0].Name = "" }),
		changed(func(p *api.Purse) { p.Tokens[1].Burned = 26 }),
		changed(func(p *api.Purse) { p.Tokens[1].Unlocked = 21 }),
		changed(func(p *api.Purse) { p.Tokens[2].Burned = most }),
		changed(func(p *api.Purse) { p.Tokens = p.Tokens[:2] }),
		changed(func(p *api.Purse) { p.Tokens = p.Tokens[1:]; p.Holdings[0].Token = "gold" }),
		changed(func(p *api.Purse) { p.Holdings[0].Origin = 0 }),
		changed(func(p *api.Purse) { p.Holdings[3].Amount = 0 }),
		changed(func(p *api.Purse) { p.Holdings[0].Amount = 0 }),
		changed(func(p *api.Purse) { p.Holdings[1].Owner = "Bob" }),
		changed(func(p *api.Purse) { p.Holdings[0].Owner = "" }),
		changed(func(p *api.Purse) { p.Holdings[1].Owner = "ada" }),
		changed(func(p *api.Purse) { p.Holdings[0].Owner = "zoe" }),
		changed(func(p *api.Purse) { p.Holdings[1], p.Holdings[2] = p.Holdings[2], p.Holdings[1] }),
		changed(func(p *api.Purse) { p.Holdings[3].Token = "gold" }),
		changed(func(p *api.Purse) { p.Holdings = append(p.Holdings, p.Holdings[0]) }),
		changed(func(p *api.Purse) { p.Holdings = append(p.Holdings, has(1, "gold", "ada", 1)) }),
		changed(func(p *api.Purse) { p.Holdings[0].Amount = most; p.Holdings[1] = has(1, "mint", "ada", most) }),
		{Holdings: []api.Holding{has(1, "mint", "ada", 1)}},
		{Tokens: []api.Token{{Origin: 1, Name: "Mint"}}, Holdings: []api.Holding{has(1, "Mint", "ada", 1)}},
	}
}

// keep: a purse with room behind its lists, and a look whether all of that is as it was.
func keep(p api.Purse) (api.Purse, func() bool) {
	known := append(slices.Clone(p.Tokens), api.Token{Name: "room"}, api.Token{Name: "room"})
	had := append(slices.Clone(p.Holdings), api.Holding{Owner: "room"}, api.Holding{Owner: "room"})
	knownWere, hadWere := slices.Clone(known), slices.Clone(had)
	return api.Purse{Tokens: known[:len(p.Tokens)], Holdings: had[:len(p.Holdings)]}, func() bool {
		return slices.Equal(known, knownWere) && slices.Equal(had, hadWere)
	}
}

// scribble: writes all over a purse's lists, the room behind them, too.
func scribble(p api.Purse) {
	known, had := p.Tokens[:cap(p.Tokens)], p.Holdings[:cap(p.Holdings)]
	for i := range known {
		known[i] = api.Token{Name: "scribble"}
	}
	for i := range had {
		had[i] = api.Holding{Owner: "scribble"}
	}
}

// same: but for whether a list without elements is nil.
func same(p, q api.Purse) bool {
	return slices.Equal(p.Tokens, q.Tokens) && slices.Equal(p.Holdings, q.Holdings)
}

func expect(t *testing.T, told string, got api.Purse, e api.Errno, want api.Purse, wanted api.Errno) {
	t.Helper()
	if e != wanted {
		t.Errorf("%s: %v, wanted %v", told, e, wanted)
	}
	if !same(got, want) {
		t.Errorf("%s: %+v, wanted %+v", told, got, want)
	}
}

// expectError: with an error the purse is as it is.
func expectError(t *testing.T, told string, do two, p api.Purse, origin uint32, called, who string, n uint64, wanted api.Errno) {
	t.Helper()
	q, e := do(p, origin, called, who, n)
	expect(t, told, q, e, p, wanted)
}

func TestEnlist(t *testing.T) {
	p := api.Purse{Holdings: []api.Holding{has(1, "mint", "ada", 3)}}
	for _, k := range []tokenKey{{2, "m"}, {1, "zinc"}, {2, "gold"}, {math.MaxUint32, "a"}, {0, "ω"}, {1, "αβ"}, {1, "gold"}, {2, "αβ"}, {10, "m"}, {2, "m1"}} {
		q, e := Enlist(p, k.origin, k.name, 9)
		if e != api.OK || len(q.Tokens) != len(p.Tokens)+1 || !slices.Equal(q.Holdings, p.Holdings) {
			t.Fatalf("%v: %v, %v", k, q, e)
		}
		if got, ok := Known(q, k.origin, k.name); !ok || got != (api.Token{Origin: k.origin, Name: k.name, Cap: 9}) {
			t.Errorf("%v: %v, %v", k, got, ok)
		}
		p = q
	}
	var order []tokenKey
	for _, x := range p.Tokens {
		order = append(order, tokenKey{x.Origin, x.Name})
	}
	if !slices.Equal(order, []tokenKey{{0, "ω"}, {1, "gold"}, {1, "zinc"}, {1, "αβ"}, {2, "gold"}, {2, "m"}, {2, "m1"}, {2, "αβ"}, {10, "m"}, {math.MaxUint32, "a"}}) {
		t.Error(order)
	}
}

func TestEnlistErrors(t *testing.T) {
	for _, called := range []string{"", "Mint", "1a", "a b", "\xff", "abcdefghijklm"} {
		p, e := Enlist(some(), 1, called, 1)
		expect(t, called, p, e, some(), api.ErrName)
	}
	p, e := Enlist(some(), 2, "mint", 1)
	expect(t, "there", p, e, some(), api.ErrThere)
	full, e := Enlist(api.Purse{Tokens: shelf(api.MaxTokens - 1)}, 0, "gold", 1)
	if e != api.OK || len(full.Tokens) != 32 {
		t.Fatal("the last one", e)
	}
	for _, q := range []api.Purse{full, {Tokens: shelf(33)}, {Tokens: shelf(90)}} {
		p, e = Enlist(q, 7, "zinc", 1)
		expect(t, "many", p, e, q, api.ErrMany)
		p, e = Enlist(q, q.Tokens[5].Origin, q.Tokens[5].Name, 1)
		expect(t, "many, and there", p, e, q, api.ErrThere)
		p, e = Enlist(q, 7, "Zinc", 1)
		expect(t, "many, and no name", p, e, q, api.ErrName)
	}
	odd := api.Purse{Tokens: []api.Token{{Origin: 1, Name: "Mint"}}}
	p, e = Enlist(odd, 1, "Mint", 1)
	expect(t, "there, and no name", p, e, odd, api.ErrName)
}

// TestEnlistOutOfOrder: ahead of the first one that stands behind it, whatever stands there else.
func TestEnlistOutOfOrder(t *testing.T) {
	p := api.Purse{Tokens: []api.Token{{Origin: 2, Name: "c"}, {Origin: 1, Name: "z"}, {Origin: 3, Name: "a"}, {Origin: 1, Name: "z", Cap: 1}}}
	for k, at := range map[tokenKey]int{{1, "zz"}: 0, {1, "a"}: 0, {2, "b"}: 0, {2, "d"}: 2, {3, "b"}: 4, {4, "a"}: 4} {
		q, e := Enlist(p, k.origin, k.name, 5)
		if e != api.OK || keyOf(q.Tokens[at]) != k || !slices.Equal(slices.Delete(q.Tokens, at, at+1), p.Tokens) {
			t.Errorf("%v: %v, %v", k, q, e)
		}
	}
}

func TestKnownAndHeld(t *testing.T) {
	p := some()
	for _, x := range p.Tokens {
		if got, ok := Known(p, x.Origin, x.Name); !ok || got != x {
			t.Errorf("%v: %v, %v", x, got, ok)
		}
	}
	for _, k := range []tokenKey{{0, "mint"}, {3, "mint"}, {2, "gold"}, {1, ""}, {1, "Mint"}, {1, "min"}} {
		if got, ok := Known(p, k.origin, k.name); ok || got != (api.Token{}) {
			t.Errorf("%v: %v, %v", k, got, ok)
		}
	}
	for _, h := range p.Holdings {
		if got := Held(p, h.Origin, h.Token, h.Owner); got != h.Amount {
			t.Errorf("%v: %d", h, got)
		}
	}
	for _, h := range []api.Holding{{Origin: 1, Token: "mint", Owner: "αβ"}, {Origin: 1, Token: "gold", Owner: "ada"}, {Origin: 3, Token: "mint", Owner: "ada"}, {Origin: 1, Token: "mint", Owner: ""}} {
		if got := Held(p, h.Origin, h.Token, h.Owner); got != 0 {
			t.Errorf("%v: %d", h, got)
		}
	}
	twice := api.Purse{Tokens: []api.Token{{Origin: 1, Name: "", Cap: 1}, {Origin: 1, Name: "", Cap: 2}}, Holdings: []api.Holding{has(9, "", "", 4), has(9, "", "", 5)}}
	if got, ok := Known(twice, 1, ""); !ok || got.Cap != 1 {
		t.Error("not the first token", got)
	}
	if got := Held(twice, 9, "", ""); got != 4 {
		t.Error("not the first holding", got)
	}
}

func TestGrant(t *testing.T) {
	want := some()
	want.Holdings[0].Amount = 23
	p, e := Grant(some(), 1, "mint", "ada", 3)
	expect(t, "more", p, e, want, api.OK)
	p, e = Grant(some(), 1, "mint", "ada", 0)
	expect(t, "nothing more", p, e, some(), api.OK)
	p, e = Grant(some(), 1, "mint", "zoe", 0)
	expect(t, "nothing at all", p, e, some(), api.OK)
	for _, n := range []struct {
		h  api.Holding
		at int
	}{
		{has(1, "gold", "zoe", 3), 0}, {has(1, "mint", "abe", 3), 0}, {has(1, "mint", "al", 3), 1},
		{has(1, "mint", "zoe", 3), 2}, {has(2, "mint", "abe", 3), 2}, {has(2, "mint", "bob", 3), 3}, {has(2, "mint", "β", 3), 4},
	} {
		want = some()
		want.Holdings = slices.Insert(want.Holdings, n.at, n.h)
		p, e = Grant(some(), n.h.Origin, n.h.Token, n.h.Owner, n.h.Amount)
		expect(t, "a new one", p, e, want, api.OK)
	}
	want = some()
	want.Holdings[0].Amount = most
	p, e = Grant(some(), 1, "mint", "ada", most-20)
	expect(t, "up to the end", p, e, want, api.OK)
	expectError(t, "beyond the end", Grant, some(), 1, "mint", "ada", most-19, api.ErrOver)
	expectError(t, "no token", Grant, some(), 2, "gold", "Ada", most, api.ErrToken)
	for _, to := range []string{"", "Ada", "a b", "\xff", "abcdefghijklm"} {
		expectError(t, "no name", Grant, some(), 1, "mint", to, 0, api.ErrName)
	}
	odd := changed(func(p *api.Purse) { p.Holdings[0].Owner, p.Holdings[0].Amount = "", most })
	expectError(t, "no name, and beyond the end", Grant, odd, 1, "mint", "", 1, api.ErrName)
}

func move(p api.Purse, from, to string, n uint64) (api.Purse, api.Errno) {
	return Move(p, 1, "mint", from, to, n)
}

func TestMove(t *testing.T) {
	want := some()
	want.Holdings[0].Amount, want.Holdings[1].Amount = 15, 6
	p, e := move(some(), "ada", "bob", 5)
	expect(t, "some", p, e, want, api.OK)
	want = some()
	want.Holdings[1].Amount = 21
	want.Holdings = want.Holdings[1:]
	p, e = move(some(), "ada", "bob", 20)
	expect(t, "all", p, e, want, api.OK)
	want = some()
	want.Holdings[1] = has(1, "mint", "zoe", 1)
	p, e = move(some(), "bob", "zoe", 1)
	expect(t, "all, to a new one", p, e, want, api.OK)
	for _, n := range []uint64{0, 1, 20} {
		p, e = move(some(), "ada", "ada", n)
		expect(t, "to oneself", p, e, some(), api.OK)
	}
	p, e = move(some(), "zoe", "bob", 0)
	expect(t, "nothing of none", p, e, some(), api.OK)
	p, e = move(some(), "zoe", "kim", 0)
	expect(t, "nothing of none to none", p, e, some(), api.OK)
	rich := changed(func(p *api.Purse) { p.Holdings[1].Amount = most - 3 })
	want = changed(func(p *api.Purse) { p.Holdings[0].Amount, p.Holdings[1].Amount = 17, most })
	p, e = move(rich, "ada", "bob", 3)
	expect(t, "up to the end", p, e, want, api.OK)
	p, e = move(rich, "bob", "bob", most-3)
	expect(t, "a lot to oneself", p, e, rich, api.OK)
}

func TestMoveErrors(t *testing.T) {
	for _, c := range []struct {
		told     string
		p        api.Purse
		from, to string
		n        uint64
		wanted   api.Errno
	}{
		{"too much", some(), "ada", "bob", 21, api.ErrUnder},
		{"too much, to no name", some(), "ada", "Bob", 21, api.ErrUnder},
		{"too much to oneself", some(), "ada", "ada", 21, api.ErrUnder},
		{"of none", some(), "zoe", "bob", 1, api.ErrUnder},
		{"to no name", some(), "ada", "Bob", 20, api.ErrName},
		{"nothing, to no name", some(), "ada", "", 0, api.ErrName},
		{"of no name, to itself", some(), "Ada", "Ada", 0, api.ErrName},
		{"beyond the end", changed(func(p *api.Purse) { p.Holdings[1].Amount = most - 3 }), "ada", "bob", 4, api.ErrOver},
	} {
		p, e := move(c.p, c.from, c.to, c.n)
		expect(t, c.told, p, e, c.p, c.wanted)
	}
	p, e := Move(some(), 3, "mint", "ada", "Bob", most)
	expect(t, "no token", p, e, some(), api.ErrToken)
}

// TestHoldingsThatAreNotRight: of one key the first one counts and changes; one that comes to 0 is gone; a new one stands ahead of the first one that is behind it.
func TestHoldingsThatAreNotRight(t *testing.T) {
	known := []api.Token{{Origin: 1, Name: "mint", Cap: 100}}
	odd := api.Purse{Tokens: known, Holdings: []api.Holding{
		has(1, "mint", "zoe", 4), has(1, "mint", "ada", 6), has(1, "mint", "zoe", 9), has(1, "mint", "", 3), has(1, "mint", "kim", 0), has(0, "mint", "ada", 8), has(1, "mint", "ada", 7),
	}}
	with := func(list ...api.Holding) api.Purse { return api.Purse{Tokens: known, Holdings: list} }
	h := odd.Holdings
	p, e := Grant(odd, 1, "mint", "zoe", 1)
	expect(t, "the first one has more", p, e, with(has(1, "mint", "zoe", 5), h[1], h[2], h[3], h[4], h[5], h[6]), api.OK)
	p, e = move(odd, "zoe", "ada", 4)
	expect(t, "the first one is gone", p, e, with(has(1, "mint", "ada", 10), h[2], h[3], h[4], h[5], h[6]), api.OK)
	p, e = move(odd, "zoe", "ada", 5)
	expect(t, "the first one alone counts", p, e, odd, api.ErrUnder)
	for _, n := range []uint64{0, 1, 4} {
		p, e = move(odd, "zoe", "zoe", n)
		expect(t, "to oneself", p, e, odd, api.OK)
	}
	p, e = move(odd, "", "bob", 3)
	expect(t, "of one without a name", p, e, with(has(1, "mint", "bob", 3), h[0], h[1], h[2], h[4], h[5], h[6]), api.OK)
	p, e = move(odd, "", "", 3)
	expect(t, "to one without a name", p, e, odd, api.ErrName)
	p, e = Grant(odd, 1, "mint", "kim", 0)
	expect(t, "one of 0 comes to 0", p, e, with(h[0], h[1], h[2], h[3], h[5], h[6]), api.OK)
	p, e = Grant(odd, 1, "mint", "kim", 2)
	expect(t, "one of 0 has more", p, e, with(h[0], h[1], h[2], h[3], has(1, "mint", "kim", 2), h[5], h[6]), api.OK)
	p, e = Grant(odd, 1, "mint", "zz", 2)
	expect(t, "behind all", p, e, with(append(slices.Clone(h), has(1, "mint", "zz", 2))...), api.OK)
	if got := Supply(odd, 1, "mint"); got != (amount.Wide{Low: 29}) {
		t.Error("the Supply is of all", got)
	}
	lots := with(has(1, "mint", "ada", 5), has(1, "mint", "ada", most))
	p, e = move(lots, "ada", "ada", 5)
	expect(t, "Grant's error, of the purse without the first one", p, e, lots, api.ErrOver)
}

// TestTokensThatAreNotRight: of one key the first token counts and changes.
func TestTokensThatAreNotRight(t *testing.T) {
	odd := api.Purse{
		Tokens: []api.Token{
			{Origin: 2, Name: "Mint"},
			{Origin: 1, Name: "mint", Cap: 9, Locked: 5, Unlocked: 8, Minted: 3, Burned: 7},
			{Origin: 1, Name: "mint", Cap: most, Locked: most, Minted: most, Burned: most},
		},
		Holdings: []api.Holding{has(1, "mint", "Ada", 40), has(2, "Mint", "ada", 40)},
	}
	want := Twin(odd)
	want.Tokens[1].Locked, want.Holdings[0].Amount = 9, 36
	p, e := Lock(odd, 1, "mint", "Ada", 4)
	expect(t, "lock", p, e, want, api.OK)
	want = Twin(odd)
	want.Tokens[1].Burned, want.Holdings[0].Amount = 11, 36
	p, e = Burn(odd, 1, "mint", "Ada", 4)
	expect(t, "burn", p, e, want, api.OK)
	want = Twin(odd)
	want.Tokens[1].Minted = 12
	want.Holdings = slices.Insert(want.Holdings, 1, has(1, "mint", "bob", 9))
	p, e = Mint(odd, 1, "mint", "bob", 9)
	expect(t, "mint, of which less than nothing is out", p, e, want, api.OK)
	expectError(t, "mint above the cap", Mint, odd, 1, "mint", "bob", 10, api.ErrCap)
	expectError(t, "unlock, of which less than nothing is out", Unlock, odd, 1, "mint", "bob", 1, api.ErrUnder)
	p, e = Unlock(odd, 1, "mint", "bob", 0)
	expect(t, "unlock nothing", p, e, odd, api.OK)
	want = Twin(odd)
	want.Tokens[0].Locked, want.Holdings[1].Amount = 1, 39
	p, e = Lock(odd, 2, "Mint", "ada", 1)
	expect(t, "a token of no name", p, e, want, api.OK)
}

func TestLock(t *testing.T) {
	want := some()
	want.Tokens[1].Locked, want.Holdings[0].Amount = 27, 13
	p, e := Lock(some(), 1, "mint", "ada", 7)
	expect(t, "some", p, e, want, api.OK)
	want = some()
	want.Tokens[1].Locked, want.Holdings = 40, want.Holdings[1:]
	p, e = Lock(some(), 1, "mint", "ada", 20)
	expect(t, "all", p, e, want, api.OK)
	p, e = Lock(some(), 1, "mint", "Zoe", 0)
	expect(t, "nothing of none", p, e, some(), api.OK)
	expectError(t, "no token", Lock, some(), 3, "mint", "ada", most, api.ErrToken)
	expectError(t, "too much", Lock, some(), 1, "mint", "ada", 21, api.ErrUnder)
	expectError(t, "of none", Lock, some(), 1, "mint", "zoe", 1, api.ErrUnder)
	full := changed(func(p *api.Purse) { p.Tokens[1].Locked = most - 5 })
	want = changed(func(p *api.Purse) { p.Tokens[1].Locked, p.Holdings[0].Amount = most, 15 })
	p, e = Lock(full, 1, "mint", "ada", 5)
	expect(t, "up to the end", p, e, want, api.OK)
	expectError(t, "beyond the end", Lock, full, 1, "mint", "ada", 6, api.ErrOver)
	expectError(t, "beyond the end, too much", Lock, full, 1, "mint", "ada", 21, api.ErrUnder)
}

func TestUnlock(t *testing.T) {
	want := some()
	want.Tokens[1].Unlocked, want.Holdings[1].Amount = 20, 13
	p, e := Unlock(some(), 1, "mint", "bob", 12)
	expect(t, "all that is out", p, e, want, api.OK)
	want = some()
	want.Tokens[1].Unlocked = 11
	want.Holdings = slices.Insert(want.Holdings, 2, has(1, "mint", "zoe", 3))
	p, e = Unlock(some(), 1, "mint", "zoe", 3)
	expect(t, "to a new one", p, e, want, api.OK)
	p, e = Unlock(some(), 1, "mint", "zoe", 0)
	expect(t, "nothing", p, e, some(), api.OK)
	expectError(t, "no token", Unlock, some(), 3, "mint", "Ada", most, api.ErrToken)
	expectError(t, "more than is out", Unlock, some(), 1, "mint", "bob", 13, api.ErrUnder)
	expectError(t, "more than is out, to no name", Unlock, some(), 1, "mint", "Bob", 13, api.ErrUnder)
	expectError(t, "to no name", Unlock, some(), 1, "mint", "Bob", 12, api.ErrName)
	expectError(t, "nothing, to no name", Unlock, some(), 1, "gold", "", 0, api.ErrName)
	rich := changed(func(p *api.Purse) { p.Holdings[1].Amount = most - 3 })
	want = changed(func(p *api.Purse) { p.Tokens[1].Unlocked, p.Holdings[1].Amount = 11, most })
	p, e = Unlock(rich, 1, "mint", "bob", 3)
	expect(t, "up to the end", p, e, want, api.OK)
	expectError(t, "beyond the end", Unlock, rich, 1, "mint", "bob", 4, api.ErrOver)
	full := changed(func(p *api.Purse) { p.Tokens[1].Locked, p.Tokens[1].Unlocked = most, most-5 })
	want = changed(func(p *api.Purse) { p.Tokens[1].Locked, p.Tokens[1].Unlocked, p.Holdings[1].Amount = most, most, 6 })
	p, e = Unlock(full, 1, "mint", "bob", 5)
	expect(t, "all of the greatest", p, e, want, api.OK)
}

func TestMint(t *testing.T) {
	want := some()
	want.Tokens[1].Minted, want.Holdings[1].Amount = 34, 10
	p, e := Mint(some(), 1, "mint", "bob", 9)
	expect(t, "up to the cap", p, e, want, api.OK)
	want = some()
	want.Tokens[0].Minted = 3
	want.Holdings = slices.Insert(want.Holdings, 0, has(1, "gold", "zoe", 3))
	p, e = Mint(some(), 1, "gold", "zoe", 3)
	expect(t, "to a new one", p, e, want, api.OK)
	p, e = Mint(some(), 1, "mint", "zoe", 0)
	expect(t, "nothing", p, e, some(), api.OK)
	expectError(t, "no token", Mint, some(), 3, "mint", "Ada", most, api.ErrToken)
	expectError(t, "above the cap", Mint, some(), 1, "mint", "bob", 10, api.ErrCap)
	expectError(t, "above the cap, to no name", Mint, some(), 1, "mint", "Bob", 10, api.ErrCap)
	expectError(t, "beyond the end of Minted, and above the cap", Mint, some(), 1, "mint", "bob", most-24, api.ErrOver)
	expectError(t, "just not beyond that end", Mint, some(), 1, "mint", "bob", most-25, api.ErrCap)
	expectError(t, "to no name", Mint, some(), 1, "mint", "Bob", 9, api.ErrName)
	expectError(t, "nothing, to no name", Mint, some(), 1, "mint", "", 0, api.ErrName)
	rich := changed(func(p *api.Purse) { p.Holdings[1].Amount = most - 3 })
	want = changed(func(p *api.Purse) { p.Tokens[1].Minted, p.Holdings[1].Amount = 28, most })
	p, e = Mint(rich, 1, "mint", "bob", 3)
	expect(t, "up to the end", p, e, want, api.OK)
	expectError(t, "beyond the end", Mint, rich, 1, "mint", "bob", 4, api.ErrOver)
	used := changed(func(p *api.Purse) { p.Tokens[1].Minted, p.Tokens[1].Burned = most-5, most-5 })
	want = changed(func(p *api.Purse) { p.Tokens[1].Minted, p.Tokens[1].Burned, p.Holdings[1].Amount = most, most-5, 6 })
	p, e = Mint(used, 1, "mint", "bob", 5)
	expect(t, "up to the end of Minted", p, e, want, api.OK)
	expectError(t, "beyond the end of Minted", Mint, used, 1, "mint", "bob", 6, api.ErrOver)
	above := changed(func(p *api.Purse) { p.Tokens[1].Cap = 20 })
	expectError(t, "nothing, where more is out than the cap", Mint, above, 1, "mint", "bob", 0, api.ErrCap)
	one, _ := Enlist(api.Purse{}, 1, "mint", 1)
	expectError(t, "the chapter's example", Mint, one, 1, "mint", "ada", 2, api.ErrCap)
}

func TestBurn(t *testing.T) {
	want := some()
	want.Tokens[1].Burned, want.Holdings[0].Amount = 11, 13
	p, e := Burn(some(), 1, "mint", "ada", 7)
	expect(t, "some", p, e, want, api.OK)
	want = some()
	want.Tokens[2].Burned = 7
	want.Holdings = want.Holdings[:3]
	p, e = Burn(some(), 2, "mint", "αβ", 7)
	expect(t, "all", p, e, want, api.OK)
	p, e = Burn(some(), 1, "mint", "Zoe", 0)
	expect(t, "nothing of none", p, e, some(), api.OK)
	expectError(t, "no token", Burn, some(), 3, "mint", "ada", most, api.ErrToken)
	expectError(t, "too much", Burn, some(), 1, "mint", "ada", 21, api.ErrUnder)
	expectError(t, "of none", Burn, some(), 1, "mint", "zoe", 1, api.ErrUnder)
	full := changed(func(p *api.Purse) { p.Tokens[1].Burned = most - 5 })
	want = changed(func(p *api.Purse) { p.Tokens[1].Burned, p.Holdings[0].Amount = most, 15 })
	p, e = Burn(full, 1, "mint", "ada", 5)
	expect(t, "up to the end", p, e, want, api.OK)
	expectError(t, "beyond the end", Burn, full, 1, "mint", "ada", 6, api.ErrOver)
	expectError(t, "beyond the end, too much", Burn, full, 1, "mint", "ada", 21, api.ErrUnder)
	granted := api.Purse{Tokens: []api.Token{{Origin: 1, Name: "mint"}}, Holdings: []api.Holding{has(1, "mint", "ada", 2)}}
	if p, e = Burn(granted, 1, "mint", "ada", 2); e != api.OK || Right(p) {
		t.Error("a Burn of what was granted", p, e)
	}
}

func TestSupply(t *testing.T) {
	for _, p := range append(rights(), wrongs()...) {
		for _, origin := range origins {
			for _, called := range tokens {
				want := new(big.Int)
				for _, h := range p.Holdings {
					if h.Origin == origin && h.Token == called {
						want.Add(want, new(big.Int).SetUint64(h.Amount))
					}
				}
				if got := Supply(p, origin, called); great(got).Cmp(want) != 0 {
					t.Errorf("%v of %q of %d: %v", p, called, origin, got)
				}
			}
		}
	}
	if got := Supply(rights()[6], 1, "mint"); got != (amount.Wide{High: 1, Low: most - 1}) {
		t.Error("of two that are full", got)
	}
}

func great(w amount.Wide) *big.Int {
	n := new(big.Int).SetUint64(w.High)
	return n.Add(n.Lsh(n, 64), new(big.Int).SetUint64(w.Low))
}

func TestOut(t *testing.T) {
	for _, c := range []struct {
		t              api.Token
		minted, locked uint64
	}{
		{api.Token{}, 0, 0},
		{api.Token{Locked: 20, Unlocked: 8, Minted: 25, Burned: 4}, 21, 12},
		{api.Token{Locked: 8, Unlocked: 8, Minted: 4, Burned: 4}, 0, 0},
		{api.Token{Locked: 7, Unlocked: 8, Minted: 25, Burned: 4}, 21, 0},
		{api.Token{Locked: 20, Unlocked: 8, Minted: 0, Burned: most}, 0, 12},
		{api.Token{Locked: most, Minted: most, Cap: 3}, most, most},
	} {
		if minted, locked := Out(c.t); minted != c.minted || locked != c.locked {
			t.Errorf("%v: %d, %d", c.t, minted, locked)
		}
	}
}

func TestRight(t *testing.T) {
	for i, p := range rights() {
		if !Right(p) {
			t.Errorf("right %d isn't", i)
		}
	}
	for i, p := range wrongs() {
		if Right(p) {
			t.Errorf("wrong %d is right", i)
		}
	}
}

// TestTwin: lists of its own, which is seen where either is written to.
func TestTwin(t *testing.T) {
	for i, p := range append(rights(), wrongs()...) {
		kept, whole := keep(p)
		twin := Twin(kept)
		if !same(twin, p) {
			t.Errorf("%d: unlike", i)
		}
		scribble(twin)
		if !whole() {
			t.Errorf("%d: one memory", i)
		}
		twin = Twin(kept)
		scribble(kept)
		if !same(twin, p) {
			t.Errorf("%d: one memory, the other way", i)
		}
	}
}

// TestAnyDeed: at all purses, tokens, names and numbers that are at hand: arguments stay, errors leave the purse as it is, answers have memory of their own, what was right is right.
func TestAnyDeed(t *testing.T) {
	all := deeds()
	for i, p := range append(rights(), wrongs()...) {
		kept, whole := keep(p)
		for _, d := range all {
			q, e := d.do(kept)
			again, f := d.do(kept)
			if e != f || !same(q, again) {
				t.Fatalf("%d, %s: once %v, once %v", i, d.told, e, f)
			}
			if e != api.OK && !same(q, p) {
				t.Fatalf("%d, %s: %v, but the purse is another one", i, d.told, e)
			}
			if Right(p) && !Right(q) && !overburned(q) {
				t.Fatalf("%d, %s: isn't right any more", i, d.told)
			}
			was := api.Purse{Tokens: slices.Clone(again.Tokens), Holdings: slices.Clone(again.Holdings)}
			scribble(q)
			if !whole() {
				t.Fatalf("%d, %s: the argument was changed, or its memory is in the answer", i, d.told)
			}
			if !same(again, was) {
				t.Fatalf("%d, %s: two answers share memory", i, d.told)
			}
		}
	}
}

// overburned: was more burned than minted, as where a Burn takes what was granted?
func overburned(p api.Purse) bool {
	return slices.ContainsFunc(p.Tokens, func(t api.Token) bool { return t.Burned > t.Minted })
}

// TestWalk: many deeds, one behind the other: what each does to the Supply, and that what comes of a right purse is right.
func TestWalk(t *testing.T) {
	r := rand.New(rand.NewSource(14))
	granted := api.Purse{}
	minted := api.Purse{}
	for _, called := range []string{"gold", "mint"} {
		granted, _ = Enlist(granted, 1, called, 0)
		granted, _ = Grant(granted, 1, called, "ada", 50)
		minted, _ = Enlist(minted, 1, called, 50)
	}
	// Of one's own tokens what was granted is locked and unlocked; others are minted and burned.
	walk(t, r, granted, []string{"move", "lock", "unlock"})
	walk(t, r, minted, []string{"move", "mint", "burn"})
	walk(t, r, minted, []string{"move", "mint", "burn", "lock", "unlock"})
}

func walk(t *testing.T, r *rand.Rand, p api.Purse, kinds []string) {
	done := map[string]int{}
	for range 4000 {
		kind, called := kinds[r.Intn(len(kinds))], tokens[1+r.Intn(2)]
		who, to, n := whos[1+r.Intn(3)], whos[1+r.Intn(3)], uint64(r.Intn(12))
		var q api.Purse
		var e api.Errno
		change := int64(n)
		switch kind {
		case "move":
			q, e = Move(p, 1, called, who, to, n)
			change = 0
		case "lock":
			q, e = Lock(p, 1, called, who, n)
			change = -change
		case "unlock":
			q, e = Unlock(p, 1, called, who, n)
		case "mint":
			q, e = Mint(p, 1, called, who, n)
		case "burn":
			q, e = Burn(p, 1, called, who, n)
			change = -change
		}
		if e != api.OK {
			change = 0
		} else {
			done[kind]++
		}
		if !Right(q) {
			t.Fatalf("%s of %d %s: isn't right any more", kind, n, called)
		}
		for _, c := range tokens[1:3] {
			compare(t, p, q, c, change, c == called)
		}
		p = q
	}
	for _, kind := range kinds {
		if done[kind] < 100 {
			t.Errorf("%s was done %d times alone", kind, done[kind])
		}
	}
}

// compare: the Supply of a token that was meant has changed so much, of another one nothing; with what is locked out, less what is minted out, it is what it was.
func compare(t *testing.T, p, q api.Purse, called string, change int64, meant bool) {
	t.Helper()
	if !meant {
		change = 0
	}
	was, is := great(Supply(p, 1, called)), great(Supply(q, 1, called))
	if new(big.Int).Sub(is, was).Cmp(big.NewInt(change)) != 0 {
		t.Fatalf("the Supply of %s was %v, is %v, wanted %d more", called, was, is, change)
	}
	if whole(p, called).Cmp(whole(q, called)) != 0 {
		t.Fatalf("of %s in all: was %v, is %v", called, whole(p, called), whole(q, called))
	}
	for _, h := range q.Holdings {
		if h.Amount == 0 || !name.Right(h.Owner) {
			t.Fatalf("a holding that may not be: %v", h)
		}
	}
}

// whole: the Supply and what is locked out, less what is minted out.
func whole(p api.Purse, called string) *big.Int {
	x, _ := Known(p, 1, called)
	minted, locked := Out(x)
	n := great(Supply(p, 1, called))
	n.Add(n, new(big.Int).SetUint64(locked))
	return n.Sub(n, new(big.Int).SetUint64(minted))
}
