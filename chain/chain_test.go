package chain

import (
	"slices"
	"strconv"
	"strings"
	"testing"

	"pontoon/api"
	"pontoon/digest"
)

func TestNew(t *testing.T) {
	empty := rootOf(nil)
	for _, id := range []uint32{0, 1, 2, end} {
		for _, n := range []uint64{0, 1, 5, most} {
			for _, watch := range [][]api.Digest{nil, {}, watching, {watching[1], watching[1], {}}} {
				want := api.Chain{
					ID:      id,
					Home:    api.Home{Chain: id, Updater: some(1), Committed: empty, Bond: n},
					Replica: api.Replica{Chain: 7, Here: id, Updater: some(2), Watchers: watch, Window: n / 2, Committed: empty},
				}
				l := digest.New()
				got := New(l, id, 7, some(1), some(2), watch, n/2, n)
				if !same(got, want) || !same(New(nil, id, 7, some(1), some(2), watch, n/2, n), want) || !Right(nil, got) {
					t.Errorf("%d, %d: %+v", id, n, got)
				}
				if !l.Has(empty) {
					t.Error("the empty tree's root isn't noted")
				}
			}
		}
	}
}

func TestNewKeepsNothing(t *testing.T) {
	list := append(slices.Clone(watching), some(-7))
	got := New(nil, 1, 2, some(1), some(2), list[:2], 5, 11)
	scribble(got)
	if !slices.Equal(list, append(slices.Clone(watching), some(-7))) {
		t.Error("the watchers that were handed in were changed")
	}
	got = New(nil, 1, 2, some(1), some(2), list[:2], 5, 11)
	clear(list)
	if !slices.Equal(got.Replica.Watchers, watching) {
		t.Error("the watchers that were handed in are kept")
	}
}

func TestEnrol(t *testing.T) {
	for _, c := range []struct {
		told, was, remote string
		wanted            api.Errno
	}{
		{"one", "", "pier", api.OK},
		{"its own name", "", "router", api.OK},
		{"a short one", "", "a", api.OK},
		{"a long one", "", "αβγδεζηθικλμ", api.OK},
		{"none", "", "", api.ErrName},
		{"a capital", "", "Pier", api.ErrName},
		{"a digit ahead", "", "1a", api.ErrName},
		{"too long a one", "", "abcdefghijklm", api.ErrName},
		{"much too long a one", "", strings.Repeat("a", 70000), api.ErrName},
		{"a stray", "", "a\xff", api.ErrName},
		{"once more", "pier", "pier", api.ErrThere},
		{"another one", "pier", "router", api.ErrThere},
		{"none, once more", "pier", "", api.ErrName},
		{"no name, once more", "pier", "Pier", api.ErrName},
		{"where no name is enrolled", "Pier", "pier", api.ErrThere},
	} {
		from := changed(func(d *api.Chain) { d.Remote = c.was })
		want := copied(from)
		if c.wanted == api.OK {
			want.Remote = c.remote
		}
		got, e := Enrol(from, c.remote)
		expect(t, c.told, got, e, want, c.wanted)
	}
}

func TestTick(t *testing.T) {
	at := func(height, time, gas uint64) api.Chain {
		return changed(func(c *api.Chain) { c.Ledger.Height, c.Ledger.Time, c.Ledger.Gas = height, time, gas })
	}
	for _, c := range []struct {
		from   api.Chain
		by     uint64
		to     api.Chain
		wanted api.Errno
	}{
		{busy(), 0, at(5, noon, 0), api.OK},
		{busy(), 3, at(5, noon+3, 0), api.OK},
		{busy(), api.MaxWindow, at(5, noon+api.MaxWindow, 0), api.OK},
		{at(0, 0, 40), 1, at(1, 1, 0), api.OK},
		{at(most-1, api.MaxTime-3, 0), 3, at(most, api.MaxTime, 0), api.OK},
		{busy(), api.MaxWindow + 1, busy(), api.ErrArg},
		{busy(), most, busy(), api.ErrArg},
		{at(most, api.MaxTime, 7), most, at(most, api.MaxTime, 7), api.ErrArg},
		{at(4, api.MaxTime-3, 7), 4, at(4, api.MaxTime-3, 7), api.ErrOver},
		{at(most, 0, 7), 0, at(most, 0, 7), api.ErrOver},
		{at(4, most, 7), 1, at(4, most, 7), api.ErrOver},
	} {
		got, e := Tick(c.from, c.by)
		expect(t, "by "+strconv.FormatUint(c.by, 10), got, e, c.to, c.wanted)
	}
}

func TestLetters(t *testing.T) {
	for n, c := range map[int]api.Chain{
		0: {}, 3: busy(), 12: changed(letters(12, 5)), 7: {Home: api.Home{Leaves: make([]api.Digest, 7), Tree: api.Tree{Count: 9}}}, 5000: {Home: api.Home{Leaves: make([]api.Digest, 5000)}},
	} {
		if got := Letters(c); got != n {
			t.Errorf("of %d: %d", n, got)
		}
	}
}

// rights: chains that may be.
func rights() []api.Chain {
	fresh := New(nil, 1, 2, updater.Root(nil), theirs.Root(nil), watching, 5, 11)
	enrolled, _ := Enrol(fresh, "pier")
	return []api.Chain{
		fresh,
		enrolled,
		busy(),
		changed(failHome),
		changed(failReplica),
		changed(cutReplica),
		changed(gas(0)),
		changed(gas(api.MaxGas)),
		changed(events(api.MaxEvents)),
		changed(letters(api.MaxLeaves, 0)),
		changed(letters(api.MaxRoots+2, api.MaxRoots)),
		changed(crowd(api.MaxRoots)),
		changed(stock(api.MaxLeaves)),
		changed(coins(atEve, most), bond(most)),
		changed(without(atTreasury), bond(0)),
		changed(func(c *api.Chain) { c.Ledger = api.Ledger{Time: api.MaxTime} }),
		changed(func(c *api.Chain) { c.Purse = api.Purse{} }),
		changed(func(c *api.Chain) { c.Remote = "" }),
		// Nothing is asked of what is enrolled, and of whose replica it is.
		changed(func(c *api.Chain) { c.Remote = "Pier\xff" }),
		changed(func(c *api.Chain) { c.Replica.Chain = 1 }),
		changed(func(c *api.Chain) { c.Replica.Window = most }),
		changed(func(c *api.Chain) { c.ID, c.Home.Chain, c.Replica.Here = end, end, end }),
		changed(func(c *api.Chain) { c.ID, c.Home.Chain, c.Replica.Here = 0, 0, 0 }),
	}
}

// wrongs: chains that may not be, each for one reason.
func wrongs() []api.Chain {
	return []api.Chain{
		{},
		changed(func(c *api.Chain) { c.ID = 9 }),
		changed(func(c *api.Chain) { c.Home.Chain = 9 }),
		changed(func(c *api.Chain) { c.Replica.Here = 9 }),
		changed(func(c *api.Chain) { c.Home.Chain, c.Replica.Here = 9, 9 }),
		changed(gas(api.MaxGas + 1)),
		changed(gas(most)),
		changed(events(api.MaxEvents + 1)),
		changed(func(c *api.Chain) { c.Ledger.Time = most }),
		changed(func(c *api.Chain) { slices.Reverse(c.Ledger.Accounts) }),
		changed(func(c *api.Chain) { c.Ledger.Accounts[atEve].Name = "ada" }),
		changed(func(c *api.Chain) { slices.Reverse(c.Purse.Tokens) }),
		changed(func(c *api.Chain) { c.Purse.Tokens = nil }),
		changed(func(c *api.Chain) { c.Purse.Tokens[1].Burned = most }),
		changed(func(c *api.Chain) { c.Purse.Holdings[0].Amount = 0 }),
		changed(func(c *api.Chain) { c.Home.Tree.Count = end }),
		changed(func(c *api.Chain) { c.Home.Leaves[1][9] ^= 1 }),
		changed(func(c *api.Chain) { c.Home.Queue = nil }),
		changed(func(c *api.Chain) { c.Home.Failed = true }),
		changed(func(c *api.Chain) {
			c.Home.Nonces[0].Next = end
			c.Home.Nonces = append(c.Home.Nonces, c.Home.Nonces[0])
		}),
		changed(crowd(api.MaxRoots + 1)),
		changed(stock(api.MaxLeaves + 1)),
		changed(func(c *api.Chain) { c.Replica.States[1].Status = 3 }),
		changed(func(c *api.Chain) { c.Replica.Roots = nil }),
		changed(func(c *api.Chain) { c.Replica.States = append(c.Replica.States, c.Replica.States[1]) }),
	}
}

func chains() []api.Chain { return append(rights(), wrongs()...) }

func TestRight(t *testing.T) {
	for i, c := range rights() {
		if !Right(nil, c) || !Right(digest.New(), c) {
			t.Errorf("right %d isn't", i)
		}
	}
	for i, c := range wrongs() {
		if Right(nil, c) || Right(digest.New(), c) {
			t.Errorf("wrong %d is right", i)
		}
	}
}

// TestTwin: lists of its own, which is seen where either is written to.
func TestTwin(t *testing.T) {
	for i, c := range chains() {
		kept, whole := keep(c)
		twin := Twin(kept)
		if !same(twin, c) {
			t.Errorf("%d: unlike", i)
		}
		scribble(twin)
		if !whole() {
			t.Errorf("%d: one memory", i)
		}
		twin = Twin(kept)
		scribble(kept)
		if !same(twin, c) {
			t.Errorf("%d: one memory, the other way", i)
		}
	}
}
