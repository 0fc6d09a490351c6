package chain

import (
	"crypto/sha256"
	"encoding/binary"
	"math"
	"slices"
	"strconv"
	"testing"

	"pontoon/api"
	"pontoon/call"
	"pontoon/home"
	"pontoon/keys"
	"pontoon/merkle"
	"pontoon/update"
)

const (
	most = math.MaxUint64
	end  = math.MaxUint32
	noon = 10 // the time of a busy chain
)

// of: a digest of a domain and parts, by the library.
func of(domain byte, parts ...string) api.Digest {
	input := []byte{domain}
	for _, part := range parts {
		input = append(input, text(part)...)
	}
	return sha256.Sum256(input)
}

// word, long, text: the bytes of numbers and of a text, by the library.
func word(n uint32) string { return string(binary.BigEndian.AppendUint32(nil, n)) }

func long(n uint64) string { return string(binary.BigEndian.AppendUint64(nil, n)) }

func text(s string) string { return word(uint32(len(s))) + s }

// The bytes of payloads, of those that may not be, too.
func transfer(origin uint32, called, to string, n uint64) string {
	return "\x01" + word(origin) + text(called) + text(to) + long(n)
}

func saying(from, s string) string { return "\x02" + text(from) + text(s) }

func detail(origin uint32, called string, most uint64) string {
	return "\x03" + word(origin) + text(called) + long(most)
}

// leafOf: a letter's leaf, by the library.
func leafOf(x api.Letter) api.Digest {
	return of(5, word(x.From)+word(x.Nonce)+word(x.To)+text(x.Sender)+text(x.Receiver)+text(x.Body))
}

func two(left, right api.Digest) api.Digest { return of(6, string(left[:]), string(right[:])) }

// branchOf: the root of the tree of leaves, and the branch of a place, by the library.
func branchOf(leaves []api.Digest, at int) (api.Digest, []api.Digest) {
	level, nought := slices.Clone(leaves), api.Digest{}
	var branch []api.Digest
	for range 32 {
		for len(level)%2 == 1 || len(level) <= at|1 {
			level = append(level, nought)
		}
		branch = append(branch, level[at^1])
		up := make([]api.Digest, len(level)/2)
		for i := range up {
			up[i] = two(level[2*i], level[2*i+1])
		}
		level, nought, at = up, two(nought, nought), at/2
	}
	return level[0], branch
}

func rootOf(leaves []api.Digest) api.Digest {
	root, _ := branchOf(leaves, 0)
	return root
}

// some digest, another one for each number.
func some(n int) api.Digest { return sha256.Sum256([]byte(strconv.Itoa(n))) }

// Two users, the updaters of both homes, the watchers of the other one, and somebody else.
var (
	ada, bob, other = keys.New(nil, api.Digest{1}), keys.New(nil, api.Digest{2}), keys.New(nil, api.Digest{99})
	updater, theirs = keys.New(nil, api.Digest{11}), keys.New(nil, api.Digest{12})
	watchers        = []keys.Signer{keys.New(nil, api.Digest{23}), keys.New(nil, api.Digest{24})}
	watching        = []api.Digest{watchers[0].Root(nil), watchers[1].Root(nil)}
)

// by: an update that a signer has signed. That its keys are used again and again is nothing to who looks at it.
func by(s keys.Signer, home uint32, old, new api.Digest) api.Update {
	sig, _ := s.Again(nil, 5, update.Claim(nil, home, old, new))
	return api.Update{Home: home, Old: old, New: new, Sig: sig}
}

// stopOf: a watcher's word of a home, signed by whoever.
func stopOf(s keys.Signer, home uint32, key api.Digest, watcher int) api.Halt {
	sig, _ := s.Again(nil, 7, update.Halt(nil, home, key, watcher))
	return api.Halt{Stop: api.Stop{Home: home, Key: key, Watcher: watcher, Sig: sig}}
}

// stop: a watcher's word of chain 2's home.
func stop(s keys.Signer, watcher int) api.Halt { return stopOf(s, 2, theirs.Root(nil), watcher) }

// signedOn: a call that a signer has signed, for a chain of that number.
func signedOn(s keys.Signer, chain uint32, c any) any {
	sig, _ := s.Again(nil, 3, call.Digest(nil, chain, c))
	return call.With(c, sig)
}

// signed: by ada, for chain 1.
func signed(c any) any { return signedOn(ada, 1, c) }

// The letters that came from chain 2 to chain 1, by what becomes of them there.
const (
	gone = iota // is Done
	ahoy
	unlocks
	mints
	caps
	enlists
	garbled
	sender
	receiver
	nobodys
	tooMuch
	overCap
	waits // was Shown under a root that waits
	later // there is nothing of it, but its root counts
	far   // to another chain
	inboxLength
)

// inbox: those letters, their leaves, and the roots of the first so many of them.
var inbox, leaves, roots = func() ([]api.Letter, []api.Digest, []api.Digest) {
	bodies := [inboxLength]string{
		gone: saying("ada", "hi"), ahoy: saying("bob", "ahoy"), unlocks: transfer(1, "mint", "bob", 4), mints: transfer(2, "gold", "zed", 6),
		caps: detail(2, "gold", 77), enlists: detail(2, "zinc", 5), garbled: "\x04", sender: saying("ada", "a"), receiver: saying("ada", "b"),
		nobodys: transfer(3, "mint", "bob", 1), tooMuch: transfer(1, "mint", "bob", 16), overCap: transfer(2, "gold", "bob", 21),
		waits: saying("ada", "c"), later: saying("ada", ""), far: saying("ada", "d"),
	}
	var letters []api.Letter
	var leaves []api.Digest
	roots := []api.Digest{rootOf(nil)}
	for i, body := range bodies {
		x := api.Letter{From: 2, Nonce: uint32(i) + 70, To: 1, Sender: "pier", Receiver: "router", Body: body}
		switch i {
		case sender:
			x.Sender = "router"
		case receiver:
			x.Receiver = "pier"
		case far:
			x.To = 3
		}
		letters, leaves = append(letters, x), append(leaves, leafOf(x))
		roots = append(roots, rootOf(leaves))
	}
	return letters, leaves, roots
}()

// proof: that the letter at a place is among the first n.
func proof(n, at int) api.Prove {
	_, branch := branchOf(leaves[:n], at)
	return api.Prove{Leaf: leaves[at], Index: uint32(at), Branch: branch}
}

// The accounts of a busy chain: where they stand.
const (
	atAda = iota
	atBob
	atEve
	atTreasury
	atZed // whose Nonce can't be one more
)

func busyLedger() api.Ledger {
	return api.Ledger{
		Height: 4, Time: noon, Gas: 3,
		Accounts: []api.Account{
			atAda: {Name: "ada", Key: ada.Root(nil), Nonce: 4, Coins: 50}, atBob: {Name: "bob", Key: bob.Root(nil), Coins: 7},
			atEve: {Name: "eve", Coins: 1}, atTreasury: {Name: "treasury", Coins: 3}, atZed: {Name: "zed", Key: ada.Root(nil), Nonce: most, Coins: 9},
		},
		Events: []api.Event{{Kind: api.Paid, Name: "bob", Number: 1}, {Kind: api.Said, Name: "hi", Number: 70}},
	}
}

func busyPurse() api.Purse {
	return api.Purse{
		Tokens: []api.Token{{Origin: 1, Name: "mint", Cap: 50, Locked: 20, Unlocked: 5}, {Origin: 2, Name: "gold", Cap: 30, Minted: 12, Burned: 2}},
		Holdings: []api.Holding{
			{Origin: 1, Token: "mint", Owner: "ada", Amount: 20}, {Origin: 1, Token: "mint", Owner: "bob", Amount: 5}, {Origin: 2, Token: "gold", Owner: "ada", Amount: 10},
		},
	}
}

// outbox: the letters that have set out from a busy chain.
var outbox = []api.Letter{
	{From: 1, Nonce: 0, To: 2, Sender: "router", Receiver: "pier", Body: saying("ada", "0")},
	{From: 1, Nonce: 1, To: 2, Sender: "router", Receiver: "pier", Body: saying("ada", "1")},
	{From: 1, Nonce: 2, To: 2, Sender: "router", Receiver: "pier", Body: saying("ada", "2")},
}

// busyHome: one root is committed, two are in the queue.
func busyHome() api.Home {
	h := home.New(nil, 1, updater.Root(nil), 11)
	for i, x := range outbox {
		h, _, _ = home.Dispatch(nil, h, x.To, x.Sender, x.Receiver, x.Body)
		if i == 0 {
			h, _ = home.Submit(nil, h, by(updater, 1, h.Committed, h.Queue[0]))
		}
	}
	return h
}

func busyReplica() api.Replica {
	r := api.Replica{
		Chain: 2, Here: 1, Updater: theirs.Root(nil), Watchers: slices.Clone(watching), Window: 5, Committed: roots[inboxLength],
		Roots:  []api.Timed{{Root: roots[waits], At: 5}, {Root: roots[waits+1], At: noon + 1}, {Root: roots[inboxLength], At: noon}},
		States: []api.State{{Leaf: leaves[gone], Status: api.Done, Root: roots[waits]}},
	}
	for _, leaf := range leaves[ahoy:waits] {
		r.States = append(r.States, api.State{Leaf: leaf, Status: api.Shown, Root: roots[waits]})
	}
	return with(api.Chain{Replica: r}, func(c *api.Chain) {
		c.Replica.States = append(c.Replica.States, api.State{Leaf: leaves[waits], Status: api.Shown, Root: roots[waits+1]}, api.State{Leaf: leaves[far], Status: api.Shown, Root: roots[inboxLength]})
	}).Replica
}

var busyChain = api.Chain{ID: 1, Remote: "pier", Ledger: busyLedger(), Purse: busyPurse(), Home: busyHome(), Replica: busyReplica()}

// busy: chain 1, with something of everything.
func busy() api.Chain { return copied(busyChain) }

// with: a chain, but for what is changed in it.
func with(c api.Chain, changes ...func(c *api.Chain)) api.Chain {
	c = copied(c)
	for _, change := range changes {
		change(&c)
	}
	return c
}

func changed(changes ...func(c *api.Chain)) api.Chain { return with(busy(), changes...) }

func failHome(c *api.Chain)    { c.Home.Failed, c.Home.Bond = true, 0 }
func failReplica(c *api.Chain) { c.Replica.Failed = true }
func cutReplica(c *api.Chain)  { c.Replica.Cut = true }

func gas(n uint64) func(c *api.Chain) { return func(c *api.Chain) { c.Ledger.Gas = n } }

func bond(n uint64) func(c *api.Chain) { return func(c *api.Chain) { c.Home.Bond = n } }

func coins(at int, n uint64) func(c *api.Chain) {
	return func(c *api.Chain) { c.Ledger.Accounts[at].Coins = n }
}

func without(at int) func(c *api.Chain) {
	return func(c *api.Chain) { c.Ledger.Accounts = slices.Delete(c.Ledger.Accounts, at, at+1) }
}

// events: so many of them in all.
func events(n int) func(c *api.Chain) {
	return func(c *api.Chain) {
		for i := len(c.Ledger.Events); i < n; i++ {
			c.Ledger.Events = append(c.Ledger.Events, api.Event{Kind: api.Paid, Name: "bob", Number: uint64(i)})
		}
	}
}

// letters: so many in all have set out, and all roots are committed but so many.
func letters(n, queued int) func(c *api.Chain) {
	return func(c *api.Chain) {
		c.Home.Leaves, c.Home.Queue = nil, nil
		for i := range n {
			c.Home.Leaves = append(c.Home.Leaves, some(i))
		}
		c.Home.Tree = merkle.Keep(nil, c.Home.Leaves...)
		c.Home.Committed = merkle.Of(nil, c.Home.Leaves[:n-queued]...)
		for i := n - queued; i < n; i++ {
			c.Home.Queue = append(c.Home.Queue, merkle.Of(nil, c.Home.Leaves[:i+1]...))
		}
	}
}

// crowd, stock: so many Roots, so many States in all.
func crowd(n int) func(c *api.Chain) {
	return func(c *api.Chain) {
		for i := len(c.Replica.Roots); i < n; i++ {
			c.Replica.Roots = append(c.Replica.Roots, api.Timed{Root: some(i), At: uint64(i)})
		}
	}
}

func stock(n int) func(c *api.Chain) {
	return func(c *api.Chain) {
		for i := len(c.Replica.States); i < n; i++ {
			c.Replica.States = append(c.Replica.States, api.State{Leaf: some(i), Status: api.Shown + i%2, Root: roots[waits]})
		}
	}
}

// copied: the same, as a test needs it that doesn't trust Twin.
func copied(c api.Chain) api.Chain {
	c.Ledger.Accounts = append([]api.Account(nil), c.Ledger.Accounts...)
	c.Ledger.Events = append([]api.Event(nil), c.Ledger.Events...)
	c.Purse.Tokens = append([]api.Token(nil), c.Purse.Tokens...)
	c.Purse.Holdings = append([]api.Holding(nil), c.Purse.Holdings...)
	c.Home.Leaves = append([]api.Digest(nil), c.Home.Leaves...)
	c.Home.Queue = append([]api.Digest(nil), c.Home.Queue...)
	c.Home.Nonces = append([]api.Nonce(nil), c.Home.Nonces...)
	c.Replica.Watchers = append([]api.Digest(nil), c.Replica.Watchers...)
	c.Replica.Roots = append([]api.Timed(nil), c.Replica.Roots...)
	c.Replica.States = append([]api.State(nil), c.Replica.States...)
	return c
}

// same: but for whether a list without elements is nil.
func same(c, d api.Chain) bool {
	return c.ID == d.ID && c.Remote == d.Remote && sameLedger(c.Ledger, d.Ledger) && samePurse(c.Purse, d.Purse) && sameHome(c.Home, d.Home) && sameReplica(c.Replica, d.Replica)
}

func sameLedger(a, b api.Ledger) bool {
	return a.Height == b.Height && a.Time == b.Time && a.Gas == b.Gas && slices.Equal(a.Accounts, b.Accounts) && slices.Equal(a.Events, b.Events)
}

func samePurse(a, b api.Purse) bool {
	return slices.Equal(a.Tokens, b.Tokens) && slices.Equal(a.Holdings, b.Holdings)
}

func sameHome(a, b api.Home) bool {
	return a.Chain == b.Chain && a.Updater == b.Updater && a.Tree == b.Tree && a.Committed == b.Committed && a.Bond == b.Bond && a.Failed == b.Failed &&
		slices.Equal(a.Leaves, b.Leaves) && slices.Equal(a.Queue, b.Queue) && slices.Equal(a.Nonces, b.Nonces)
}

func sameReplica(a, b api.Replica) bool {
	return a.Chain == b.Chain && a.Here == b.Here && a.Updater == b.Updater && a.Window == b.Window && a.Committed == b.Committed && a.Failed == b.Failed && a.Cut == b.Cut &&
		slices.Equal(a.Watchers, b.Watchers) && slices.Equal(a.Roots, b.Roots) && slices.Equal(a.States, b.States)
}

// looks: at lists, with room behind them, whether all of that is as it was.
type looks []func() bool

func room[T comparable](l *looks, list []T, spare T) []T {
	whole := append(slices.Clone(list), spare, spare)
	was := slices.Clone(whole)
	*l = append(*l, func() bool { return slices.Equal(whole, was) })
	return whole[:len(list)]
}

// keep: a chain with room behind its lists, and a look whether all of that is as it was.
func keep(c api.Chain) (api.Chain, func() bool) {
	var l looks
	c.Ledger.Accounts = room(&l, c.Ledger.Accounts, api.Account{Name: "room"})
	c.Ledger.Events = room(&l, c.Ledger.Events, api.Event{Name: "room"})
	c.Purse.Tokens = room(&l, c.Purse.Tokens, api.Token{Name: "room"})
	c.Purse.Holdings = room(&l, c.Purse.Holdings, api.Holding{Owner: "room"})
	c.Home.Leaves = room(&l, c.Home.Leaves, some(-7))
	c.Home.Queue = room(&l, c.Home.Queue, some(-7))
	c.Home.Nonces = room(&l, c.Home.Nonces, api.Nonce{To: 70})
	c.Replica.Watchers = room(&l, c.Replica.Watchers, some(-7))
	c.Replica.Roots = room(&l, c.Replica.Roots, api.Timed{Root: some(-7)})
	c.Replica.States = room(&l, c.Replica.States, api.State{Leaf: some(-7)})
	return c, func() bool {
		return !slices.ContainsFunc(l, func(whole func() bool) bool { return !whole() })
	}
}

func fill[T any](list []T, x T) {
	list = list[:cap(list)]
	for i := range list {
		list[i] = x
	}
}

// scribble: writes all over a chain's lists, the room behind them, too.
func scribble(c api.Chain) {
	fill(c.Ledger.Accounts, api.Account{Name: "scribble"})
	fill(c.Ledger.Events, api.Event{Name: "scribble"})
	fill(c.Purse.Tokens, api.Token{Name: "scribble"})
	fill(c.Purse.Holdings, api.Holding{Owner: "scribble"})
	fill(c.Home.Leaves, some(-99))
	fill(c.Home.Queue, some(-99))
	fill(c.Home.Nonces, api.Nonce{To: 99})
	fill(c.Replica.Watchers, some(-99))
	fill(c.Replica.Roots, api.Timed{Root: some(-99)})
	fill(c.Replica.States, api.State{Leaf: some(-99)})
}

func expect(t *testing.T, told string, got api.Chain, e api.Errno, want api.Chain, wanted api.Errno) {
	t.Helper()
	if e != wanted {
		t.Errorf("%s: %v, wanted %v", told, e, wanted)
	}
	if !same(got, want) {
		t.Errorf("%s: another chain than was wanted%s", told, unlike(got, want))
	}
}

// unlike: in which of their parts two chains differ.
func unlike(c, d api.Chain) string {
	s := ""
	for _, part := range []struct {
		told string
		same bool
	}{
		{"number", c.ID == d.ID}, {"router", c.Remote == d.Remote}, {"ledger", sameLedger(c.Ledger, d.Ledger)}, {"purse", samePurse(c.Purse, d.Purse)}, {"home", sameHome(c.Home, d.Home)}, {"replica", sameReplica(c.Replica, d.Replica)},
	} {
		if !part.same {
			s += ", by its " + part.told
		}
	}
	return s
}
