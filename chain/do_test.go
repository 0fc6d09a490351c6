package chain

import (
	"math"
	"reflect"
	"slices"
	"strconv"
	"strings"
	"testing"

	"pontoon/api"
	"pontoon/call"
	"pontoon/digest"
	"pontoon/home"
)

// weights: of each call, by its tag.
var weights = []uint64{0, 1, 3, 2, 2, 4, 6, 8, 4, 8, 4, 4, 5}

// behind: a chain behind a call that has been done: with the gas, the nonce and the events that are its, and what else is changed.
func behind(c api.Chain, asked any, happened []api.Event, changes ...func(c *api.Chain)) api.Chain {
	c = with(c, changes...)
	c.Ledger.Gas += weights[call.Tag(asked)]
	if _, _, _, is := call.Signed(asked); is {
		c.Ledger.Accounts[atAda].Nonce++
	}
	c.Ledger.Events = append(c.Ledger.Events, happened...)
	return c
}

// doing: a call that is asked of a chain, and what comes of it.
type doing struct {
	told   string
	from   api.Chain
	asked  any
	events []api.Event
	change func(c *api.Chain)
}

func nothing(*api.Chain) {}

func (d doing) test(t *testing.T) {
	t.Helper()
	got, e := Do(nil, d.from, d.asked)
	expect(t, d.told, got, e, behind(d.from, d.asked, d.events, d.change), api.OK)
}

// failing: a call that is asked of a chain, and why it isn't done.
type failing struct {
	told   string
	from   api.Chain
	asked  any
	wanted api.Errno
}

func (f failing) test(t *testing.T) {
	t.Helper()
	got, e := Do(nil, f.from, f.asked)
	expect(t, f.told, got, e, f.from, f.wanted)
}

func TestPay(t *testing.T) {
	pay := func(to string, n uint64) any { return signed(api.Pay{From: "ada", To: to, Amount: n, Nonce: 4}) }
	paid := func(to string, n uint64) []api.Event {
		return []api.Event{{Kind: api.Paid, Name: to, Number: n}}
	}
	for _, d := range []doing{
		{"some", busy(), pay("bob", 7), paid("bob", 7), func(c *api.Chain) { coins(atAda, 43)(c); coins(atBob, 14)(c) }},
		{"all", busy(), pay("treasury", 50), paid("treasury", 50), func(c *api.Chain) { coins(atAda, 0)(c); coins(atTreasury, 53)(c) }},
		{"nothing", busy(), pay("eve", 0), paid("eve", 0), nothing},
		{"to herself", busy(), pay("ada", 50), paid("ada", 50), nothing},
		{"the greatest amount", changed(coins(atAda, most), coins(atBob, 0)), pay("bob", most), paid("bob", most), func(c *api.Chain) { coins(atAda, 0)(c); coins(atBob, most)(c) }},
	} {
		d.test(t)
	}
	for _, f := range []failing{
		{"to nobody", busy(), pay("zoe", 7), api.ErrNone},
		{"to no name", busy(), pay("", 7), api.ErrNone},
		{"too much", busy(), pay("bob", 51), api.ErrUnder},
		{"too much, to nobody", busy(), pay("zoe", 51), api.ErrUnder},
		{"more than bob can have", changed(coins(atBob, most-6)), pay("bob", 7), api.ErrOver},
	} {
		f.test(t)
	}
}

// departs: what a letter of that body is to a busy chain, and the event of it.
func departs(from api.Chain, body string) (func(c *api.Chain), []api.Event) {
	x := api.Letter{From: from.Home.Chain, Nonce: home.Next(from.Home, from.Replica.Chain), To: from.Replica.Chain, Sender: "router", Receiver: from.Remote, Body: body}
	h, _, _ := home.Dispatch(nil, from.Home, x.To, "router", from.Remote, body)
	return func(c *api.Chain) { c.Home = h }, []api.Event{{Kind: api.Dispatched, Name: "ada", Number: uint64(x.Nonce), Digest: leafOf(x)}}
}

// departing: a call by which a letter of that body sets out.
func departing(told string, from api.Chain, asked any, body string, changes ...func(c *api.Chain)) doing {
	home, events := departs(from, body)
	return doing{told, from, asked, events, func(c *api.Chain) {
		*c = with(*c, changes...)
		home(c)
	}}
}

// beyond: a chain to whose number as many letters have set out as may.
func beyond() api.Chain {
	return changed(func(c *api.Chain) { c.Home.Nonces[0].Next = end })
}

// third: the replica is of chain 3, of which nothing else is known.
func third(c *api.Chain) { c.Replica.Chain = 3 }

func sent(origin uint32, called, to string, n uint64) any {
	return signed(api.Send{From: "ada", Origin: origin, Token: called, To: to, Amount: n, Nonce: 4})
}

func TestSend(t *testing.T) {
	locked := func(c *api.Chain) { c.Purse.Tokens[0].Locked, c.Purse.Holdings[0].Amount = 27, 13 }
	burned := func(c *api.Chain) { c.Purse.Tokens[1].Burned, c.Purse.Holdings[2].Amount = 5, 7 }
	for _, d := range []doing{
		departing("of its own", busy(), sent(1, "mint", "bob", 7), transfer(1, "mint", "bob", 7), locked),
		departing("of the other one's", busy(), sent(2, "gold", "zoe", 3), transfer(2, "gold", "zoe", 3), burned),
		departing("all", busy(), sent(2, "gold", "ada", 10), transfer(2, "gold", "ada", 10), func(c *api.Chain) {
			c.Purse.Tokens[1].Burned, c.Purse.Holdings = 12, c.Purse.Holdings[:2]
		}),
		departing("to a third chain", changed(third), sent(1, "mint", "bob", 7), transfer(1, "mint", "bob", 7), locked),
		departing("the last letter's number but one", changed(func(c *api.Chain) { c.Home.Nonces[0].Next = end - 1 }), sent(1, "mint", "bob", 7), transfer(1, "mint", "bob", 7), locked),
	} {
		d.test(t)
	}
	for _, f := range []failing{
		{"no such token", busy(), sent(1, "gold", "bob", 7), api.ErrToken},
		{"too much", busy(), sent(1, "mint", "bob", 21), api.ErrUnder},
		{"too much of the other one's", busy(), sent(2, "gold", "bob", 11), api.ErrUnder},
		{"more than can be locked", changed(func(c *api.Chain) { c.Purse.Tokens[0].Locked = most }), sent(1, "mint", "bob", 7), api.ErrOver},
		{"to no name", busy(), sent(1, "mint", "Bob", 7), api.ErrForm},
		{"nothing", busy(), sent(1, "mint", "bob", 0), api.ErrForm},
	} {
		f.test(t)
	}
	undeparted(t, sent(1, "mint", "bob", 7))
	undeparted(t, sent(2, "gold", "bob", 3))
}

// undeparted: why no letter sets out, whatever it is about.
func undeparted(t *testing.T, asked any) {
	t.Helper()
	for _, f := range []failing{
		{"failed", changed(failHome), asked, api.ErrFailed},
		{"to itself", changed(func(c *api.Chain) { c.Replica.Chain = 1 }), asked, api.ErrDest},
		{"none is enrolled", changed(func(c *api.Chain) { c.Remote = "" }), asked, api.ErrForm},
		{"no name is enrolled", changed(func(c *api.Chain) { c.Remote = "Pier" }), asked, api.ErrForm},
		{"all letters", changed(letters(api.MaxLeaves, 0)), asked, api.ErrMany},
		{"all roots", changed(letters(api.MaxRoots, api.MaxRoots)), asked, api.ErrMany},
		{"all numbers", beyond(), asked, api.ErrOver},
	} {
		f.test(t)
	}
}

func TestSay(t *testing.T) {
	say := func(s string) any { return signed(api.Say{From: "ada", Text: s, Nonce: 4}) }
	for _, s := range []string{"", "hi", "αβ \"q\"", strings.Repeat("😀", 64)} {
		departing(s, busy(), say(s), saying("ada", s)).test(t)
	}
	departing("to a third chain", changed(third), say("hi"), saying("ada", "hi")).test(t)
	departing("an empty purse", changed(func(c *api.Chain) { c.Purse = api.Purse{} }), say("hi"), saying("ada", "hi")).test(t)
	for _, s := range []string{"\n", "\x7f", "\xff", strings.Repeat("x", 65), strings.Repeat("x", 70000)} {
		failing{strconv.Quote(s), busy(), say(s), api.ErrForm}.test(t)
	}
	undeparted(t, say("hi"))
}

func TestTell(t *testing.T) {
	tell := func(called string) any { return signed(api.Tell{From: "ada", Token: called, Nonce: 4}) }
	departing("its own", busy(), tell("mint"), detail(1, "mint", 50)).test(t)
	departing("to a third chain", changed(third), tell("mint"), detail(1, "mint", 50)).test(t)
	departing("the greatest cap", changed(func(c *api.Chain) { c.Purse.Tokens[0].Cap = most }), tell("mint"), detail(1, "mint", most)).test(t)
	for _, called := range []string{"gold", "zinc", "", "Mint"} {
		failing{called, busy(), tell(called), api.ErrToken}.test(t)
	}
	failing{"a token of no name that is there", changed(func(c *api.Chain) { c.Purse.Tokens[0].Name = "Mint" }), tell("Mint"), api.ErrForm}.test(t)
	undeparted(t, tell("mint"))
}

// TestWhereItIs: what is here is what the ID says, and letters set out from the home's chain, where they are unlike.
func TestWhereItIs(t *testing.T) {
	c := changed(func(c *api.Chain) { c.ID = 2 })
	asked := signedOn(ada, 2, api.Send{From: "ada", Origin: 2, Token: "gold", To: "bob", Amount: 3, Nonce: 4})
	departing("here is 2", c, asked, transfer(2, "gold", "bob", 3), func(c *api.Chain) { c.Purse.Tokens[1].Locked, c.Purse.Holdings[2].Amount = 3, 7 }).test(t)
	asked = signedOn(ada, 2, api.Tell{From: "ada", Token: "gold", Nonce: 4})
	departing("here is 2", c, asked, detail(2, "gold", 30)).test(t)
	failing{"signed for the home's chain", c, signed(api.Tell{From: "ada", Token: "gold", Nonce: 4}), api.ErrSig}.test(t)
	got, e := Do(nil, changed(func(c *api.Chain) { c.ID = 5 }), api.Process{Letter: inbox[unlocks]})
	if e != api.ErrToken || !same(got, changed(func(c *api.Chain) { c.ID = 5 })) {
		t.Error("a token of neither chain", e)
	}
}

func TestSubmit(t *testing.T) {
	c := busy()
	old := c.Home.Committed
	for n, new := range c.Home.Queue {
		d := doing{"root " + strconv.Itoa(n), c, api.Submit{Update: by(updater, 1, old, new)}, []api.Event{{Kind: api.Updated, Number: 3, Digest: new}}, func(c *api.Chain) {
			c.Home.Committed, c.Home.Queue = new, c.Home.Queue[n+1:]
		}}
		d.test(t)
	}
	count := changed(func(c *api.Chain) { c.Home.Tree.Count = end })
	doing{"as the tree counts", count, api.Submit{Update: by(updater, 1, old, c.Home.Queue[1])}, []api.Event{{Kind: api.Updated, Number: end, Digest: c.Home.Queue[1]}}, func(c *api.Chain) {
		c.Home.Committed, c.Home.Queue = c.Home.Queue[1], nil
	}}.test(t)
	for _, f := range []failing{
		{"failed", changed(failHome), api.Submit{Update: by(updater, 1, old, c.Home.Queue[0])}, api.ErrFailed},
		{"another home", c, api.Submit{Update: by(updater, 2, old, c.Home.Queue[0])}, api.ErrDest},
		{"another old root", c, api.Submit{Update: by(updater, 1, some(1), c.Home.Queue[0])}, api.ErrOld},
		{"by somebody else", c, api.Submit{Update: by(theirs, 1, old, c.Home.Queue[0])}, api.ErrSig},
		{"a root that never was", c, api.Submit{Update: by(updater, 1, old, some(1))}, api.ErrRoot},
		{"nothing", c, api.Submit{}, api.ErrDest},
	} {
		f.test(t)
	}
}

// slashing: both calls by which a busy chain's home is slashed, by whom.
func slashing(whose string) []any {
	h := busyHome()
	u := by(updater, 1, h.Committed, some(1))
	return []any{api.Improper{Update: u, By: whose}, api.Double{A: u, B: by(updater, 1, h.Committed, h.Queue[0]), By: whose}}
}

func TestSlashing(t *testing.T) {
	key := updater.Root(nil)
	for _, c := range []struct {
		told, by string
		from     api.Chain
		word     uint64
		change   func(c *api.Chain)
	}{
		{"eve's word", "eve", busy(), 5, func(c *api.Chain) { coins(atEve, 6)(c); coins(atTreasury, 9)(c) }},
		{"ada's word", "ada", busy(), 5, func(c *api.Chain) { coins(atAda, 55)(c); coins(atTreasury, 9)(c) }},
		{"the treasury's own", "treasury", busy(), 5, func(c *api.Chain) { coins(atTreasury, 14)(c) }},
		{"an even bond", "eve", changed(bond(10)), 5, func(c *api.Chain) { coins(atEve, 6)(c); coins(atTreasury, 8)(c) }},
		{"a bond of 1", "eve", changed(bond(1)), 0, func(c *api.Chain) { coins(atTreasury, 4)(c) }},
		{"no bond", "eve", changed(bond(0)), 0, nothing},
		{"the greatest bond", "eve", changed(bond(most), coins(atTreasury, 0)), most / 2, func(c *api.Chain) { coins(atEve, most/2+1)(c); coins(atTreasury, most/2+1)(c) }},
		{"as many coins as may be", "eve", changed(coins(atEve, most-5), coins(atTreasury, most-6)), 5, func(c *api.Chain) { coins(atEve, most)(c); coins(atTreasury, most)(c) }},
	} {
		for _, asked := range slashing(c.by) {
			doing{c.told, c.from, asked, []api.Event{{Kind: api.Slashed, Name: c.by, Number: c.word, Digest: key}}, func(d *api.Chain) {
				failHome(d)
				c.change(d)
			}}.test(t)
		}
	}
	for _, c := range []struct {
		told, by string
		from     api.Chain
		wanted   api.Errno
	}{
		{"failed", "eve", changed(failHome), api.ErrFailed},
		{"failed, by nobody", "zoe", changed(failHome), api.ErrFailed},
		{"another chain's home", "eve", changed(func(c *api.Chain) { c.Home.Chain = 7 }), api.ErrDest},
		{"by nobody", "zoe", busy(), api.ErrNone},
		{"by no name", "", busy(), api.ErrNone},
		{"by nobody, without a bond", "zoe", changed(bond(0)), api.ErrNone},
		{"no treasury", "eve", changed(without(atTreasury)), api.ErrNone},
		{"no treasury, without a bond", "eve", changed(without(atTreasury), bond(0)), api.ErrNone},
		{"more than eve can have", "eve", changed(coins(atEve, most-4)), api.ErrOver},
		{"more than eve can have, no treasury", "eve", changed(coins(atEve, most-4), without(atTreasury)), api.ErrOver},
		{"more than the treasury can have", "eve", changed(coins(atTreasury, most-5)), api.ErrOver},
		{"by nobody, more than the treasury can have", "zoe", changed(coins(atTreasury, most)), api.ErrNone},
		{"the treasury's own, more than it can have of both", "treasury", changed(coins(atTreasury, most-10)), api.ErrOver},
	} {
		for _, asked := range slashing(c.by) {
			failing{c.told, c.from, asked, c.wanted}.test(t)
		}
	}
}

func TestNoFraud(t *testing.T) {
	c := busy()
	old, queued := c.Home.Committed, c.Home.Queue
	u, v := by(updater, 1, old, some(1)), by(updater, 1, old, some(2))
	for _, f := range []failing{
		{"another home", c, api.Improper{Update: by(updater, 2, old, some(1)), By: "eve"}, api.ErrDest},
		{"another old root", c, api.Improper{Update: by(updater, 1, some(1), some(1)), By: "eve"}, api.ErrOld},
		{"by somebody else", c, api.Improper{Update: by(theirs, 1, old, some(1)), By: "eve"}, api.ErrSig},
		{"a root that came", c, api.Improper{Update: by(updater, 1, old, queued[1]), By: "eve"}, api.ErrFraud},
		{"a root that came, by nobody", c, api.Improper{Update: by(updater, 1, old, queued[1]), By: "zoe"}, api.ErrFraud},
		{"nothing", c, api.Improper{}, api.ErrDest},
		{"two of another home", c, api.Double{A: by(updater, 2, old, some(1)), B: by(updater, 2, old, some(2)), By: "eve"}, api.ErrDest},
		{"the same twice", c, api.Double{A: u, B: u, By: "eve"}, api.ErrFraud},
		{"of other old roots", c, api.Double{A: u, B: by(updater, 1, some(1), some(2)), By: "eve"}, api.ErrFraud},
		{"one by somebody else", c, api.Double{A: u, B: by(theirs, 1, old, some(2)), By: "zoe"}, api.ErrFraud},
		{"by the other home's updater", c, api.Double{A: by(theirs, 1, old, some(1)), B: by(theirs, 1, old, some(2)), By: "eve"}, api.ErrFraud},
		{"nothing twice", c, api.Double{}, api.ErrDest},
		{"double, but by nobody", c, api.Double{A: u, B: v, By: "zoe"}, api.ErrNone},
	} {
		f.test(t)
	}
}

func TestAccept(t *testing.T) {
	old := roots[inboxLength]
	accepted := func(new api.Digest) []api.Event {
		return []api.Event{{Kind: api.Accepted, Number: noon, Digest: new}}
	}
	for _, d := range []doing{
		{"a new root", busy(), api.Accept{Update: by(theirs, 2, old, some(1))}, accepted(some(1)), func(c *api.Chain) {
			c.Replica.Committed, c.Replica.Roots = some(1), append(c.Replica.Roots, api.Timed{Root: some(1), At: noon + 5})
		}},
		{"a root that is there", busy(), api.Accept{Update: by(theirs, 2, old, roots[waits])}, accepted(roots[waits]), func(c *api.Chain) {
			c.Replica.Committed, c.Replica.Roots[0].At = roots[waits], noon+5
		}},
		{"the home has failed", changed(failHome), api.Accept{Update: by(theirs, 2, old, roots[waits])}, accepted(roots[waits]), func(c *api.Chain) {
			c.Replica.Committed, c.Replica.Roots[0].At = roots[waits], noon+5
		}},
	} {
		d.test(t)
	}
	good := api.Accept{Update: by(theirs, 2, old, some(1))}
	for _, f := range []failing{
		{"failed", changed(failReplica, cutReplica), good, api.ErrFailed},
		{"cut", changed(cutReplica), good, api.ErrCut},
		{"another home", busy(), api.Accept{Update: by(theirs, 1, old, some(1))}, api.ErrDest},
		{"another old root", busy(), api.Accept{Update: by(theirs, 2, some(2), some(1))}, api.ErrOld},
		{"by its own updater", busy(), api.Accept{Update: by(updater, 2, old, some(1))}, api.ErrSig},
		{"all roots", changed(crowd(api.MaxRoots)), good, api.ErrMany},
		{"over", changed(func(c *api.Chain) { c.Replica.Window = most - noon + 1 }), good, api.ErrOver},
		{"nothing", busy(), api.Accept{}, api.ErrDest},
	} {
		f.test(t)
	}
}

func TestDoubled(t *testing.T) {
	a, b := by(theirs, 2, some(1), some(2)), by(theirs, 2, some(1), some(3))
	broken := []api.Event{{Kind: api.Broken, Number: noon, Digest: theirs.Root(nil)}}
	doing{"double", busy(), api.Doubled{A: a, B: b}, broken, failReplica}.test(t)
	doing{"double, and cut", changed(cutReplica), api.Doubled{A: b, B: a}, broken, failReplica}.test(t)
	for _, f := range []failing{
		{"failed", changed(failReplica), api.Doubled{A: a, B: b}, api.ErrFailed},
		{"another home", busy(), api.Doubled{A: by(theirs, 1, some(1), some(2)), B: by(theirs, 1, some(1), some(3))}, api.ErrDest},
		{"the same", busy(), api.Doubled{A: a, B: a}, api.ErrFraud},
		{"its own updater's", busy(), api.Doubled{A: by(updater, 2, some(1), some(2)), B: by(updater, 2, some(1), some(3))}, api.ErrFraud},
		{"nothing", busy(), api.Doubled{}, api.ErrDest},
	} {
		f.test(t)
	}
}

func TestHalt(t *testing.T) {
	for watcher, s := range watchers {
		stopped := []api.Event{{Kind: api.Stopped, Number: uint64(watcher), Digest: theirs.Root(nil)}}
		doing{"a watcher's", busy(), stop(s, watcher), stopped, cutReplica}.test(t)
		doing{"a watcher's, and failed", changed(failReplica), stop(s, watcher), stopped, cutReplica}.test(t)
	}
	elsewhere := stop(watchers[0], 0)
	elsewhere.Stop.Home = 1
	for _, f := range []failing{
		{"cut", changed(cutReplica), stop(watchers[0], 0), api.ErrCut},
		{"another home", busy(), elsewhere, api.ErrDest},
		{"no such watcher", busy(), stop(watchers[0], 2), api.ErrNone},
		{"a watcher below", busy(), stop(watchers[0], -1), api.ErrNone},
		{"the lowest number", busy(), stop(watchers[0], math.MinInt), api.ErrNone},
		{"another watcher's", busy(), stop(watchers[1], 0), api.ErrSig},
		{"somebody else's", busy(), stop(other, 1), api.ErrSig},
		{"nothing", busy(), api.Halt{}, api.ErrDest},
	} {
		f.test(t)
	}
}

func TestProve(t *testing.T) {
	proven := func(at int) []api.Event {
		return []api.Event{{Kind: api.Proven, Number: uint64(at), Digest: leaves[at]}}
	}
	next := func(c *api.Chain) { c.Ledger.Time++ }
	for _, d := range []doing{
		{"a new one", busy(), proof(inboxLength, later), proven(later), func(c *api.Chain) {
			c.Replica.States = append(c.Replica.States, api.State{Leaf: leaves[later], Status: api.Shown, Root: roots[inboxLength]})
		}},
		{"one that was shown", busy(), proof(inboxLength, ahoy), proven(ahoy), func(c *api.Chain) { c.Replica.States[ahoy].Root = roots[inboxLength] }},
		{"under a root that counts now", changed(next), proof(waits+1, ahoy), proven(ahoy), func(c *api.Chain) { c.Replica.States[ahoy].Root = roots[waits+1] }},
	} {
		d.test(t)
	}
	short := proof(inboxLength, later)
	short.Branch = short.Branch[:31]
	for _, f := range []failing{
		{"failed", changed(failReplica, cutReplica), proof(inboxLength, later), api.ErrFailed},
		{"cut", changed(cutReplica), proof(inboxLength, later), api.ErrCut},
		{"a short branch", busy(), short, api.ErrProof},
		{"under no root", busy(), proof(later+1, later), api.ErrRoot},
		{"under a root that waits", busy(), proof(waits+1, waits), api.ErrWait},
		{"Done", busy(), proof(inboxLength, gone), api.ErrStatus},
		{"all states", changed(stock(api.MaxLeaves)), proof(inboxLength, later), api.ErrMany},
		{"nothing", busy(), api.Prove{}, api.ErrProof},
	} {
		f.test(t)
	}
}

// processing: letter at of the inbox, and what it does to the purse.
func processing(told string, at int, said []api.Event, change func(p *api.Purse)) doing {
	events := append([]api.Event{{Kind: api.Processed, Name: "router", Number: uint64(70 + at), Digest: leaves[at]}}, said...)
	return doing{told, busy(), api.Process{Letter: inbox[at]}, events, func(c *api.Chain) {
		c.Replica.States[at].Status = api.Done
		change(&c.Purse)
	}}
}

func TestProcess(t *testing.T) {
	for _, d := range []doing{
		processing("a saying", ahoy, []api.Event{{Kind: api.Said, Name: "ahoy", Number: 70 + ahoy}}, func(*api.Purse) {}),
		processing("what was locked", unlocks, nil, func(p *api.Purse) { p.Tokens[0].Unlocked, p.Holdings[1].Amount = 9, 9 }),
		processing("what is minted", mints, nil, func(p *api.Purse) {
			p.Tokens[1].Minted, p.Holdings = 18, append(p.Holdings, api.Holding{Origin: 2, Token: "gold", Owner: "zed", Amount: 6})
		}),
		processing("a cap", caps, nil, func(p *api.Purse) { p.Tokens[1].Cap = 77 }),
		processing("a new token", enlists, nil, func(p *api.Purse) { p.Tokens = append(p.Tokens, api.Token{Origin: 2, Name: "zinc", Cap: 5}) }),
	} {
		d.test(t)
		again := with(d.from, d.change)
		failing{d.told + ", again", again, d.asked, api.ErrStatus}.test(t)
		for _, f := range []failing{
			{d.told + ", failed", with(d.from, failReplica, cutReplica), d.asked, api.ErrFailed},
			{d.told + ", cut", with(d.from, cutReplica), d.asked, api.ErrCut},
			{d.told + ", none is enrolled", with(d.from, func(c *api.Chain) { c.Remote = "" }), d.asked, api.ErrRouter},
			{d.told + ", another one is enrolled", with(d.from, func(c *api.Chain) { c.Remote = "router" }), d.asked, api.ErrRouter},
		} {
			f.test(t)
		}
	}
	quiet := func(c *api.Chain) { c.Replica.States[0].Status = api.Shown }
	doing{"a saying of the first number", changed(quiet), api.Process{Letter: inbox[gone]}, []api.Event{{Kind: api.Processed, Name: "router", Number: 70, Digest: leaves[gone]}, {Kind: api.Said, Name: "hi", Number: 70}}, func(c *api.Chain) {
		c.Replica.States[0].Status = api.Done
	}}.test(t)
}

func TestProcessErrors(t *testing.T) {
	nobodyElse := func(c *api.Chain) { c.Remote = "" }
	odd := inbox[ahoy]
	odd.Body = strings.Repeat("x", 301)
	for _, f := range []failing{
		{"to another chain", busy(), api.Process{Letter: inbox[far]}, api.ErrDest},
		{"from here", busy(), api.Process{Letter: outbox[0]}, api.ErrDest},
		{"Done", busy(), api.Process{Letter: inbox[gone]}, api.ErrStatus},
		{"not shown", busy(), api.Process{Letter: inbox[later]}, api.ErrStatus},
		{"not shown, and another router's", changed(nobodyElse), api.Process{Letter: inbox[later]}, api.ErrStatus},
		{"another body", busy(), api.Process{Letter: odd}, api.ErrStatus},
		{"under a root that waits", busy(), api.Process{Letter: inbox[waits]}, api.ErrWait},
		{"under no root", changed(func(c *api.Chain) { c.Replica.Roots = nil }), api.Process{Letter: inbox[ahoy]}, api.ErrRoot},
		{"from another sender", busy(), api.Process{Letter: inbox[sender]}, api.ErrRouter},
		{"to another receiver", busy(), api.Process{Letter: inbox[receiver]}, api.ErrRouter},
		{"no payload", busy(), api.Process{Letter: inbox[garbled]}, api.ErrHandler},
		{"a token of neither chain", busy(), api.Process{Letter: inbox[nobodys]}, api.ErrToken},
		{"more than is locked out", busy(), api.Process{Letter: inbox[tooMuch]}, api.ErrUnder},
		{"above the cap", busy(), api.Process{Letter: inbox[overCap]}, api.ErrCap},
		{"nothing", busy(), api.Process{}, api.ErrDest},
	} {
		f.test(t)
	}
}

// good: of each kind a call that is done on a busy chain, in the order of the tags.
func good() []any {
	h, double := busyHome(), slashing("eve")
	return []any{
		signed(api.Pay{From: "ada", To: "bob", Amount: 7, Nonce: 4}),
		sent(1, "mint", "bob", 7),
		signed(api.Say{From: "ada", Text: "hi", Nonce: 4}),
		signed(api.Tell{From: "ada", Token: "mint", Nonce: 4}),
		api.Submit{Update: by(updater, 1, h.Committed, h.Queue[0])},
		double[0],
		double[1],
		api.Accept{Update: by(theirs, 2, roots[inboxLength], some(1))},
		api.Doubled{A: by(theirs, 2, some(1), some(2)), B: by(theirs, 2, some(1), some(3))},
		stop(watchers[1], 1),
		proof(inboxLength, later),
		api.Process{Letter: inbox[ahoy]},
	}
}

// TestGas: each call's weight is spent, if there is as much left.
func TestGas(t *testing.T) {
	for i, asked := range good() {
		weight := weights[i+1]
		for _, n := range []uint64{0, 1, api.MaxGas - weight} {
			got, e := Do(nil, changed(gas(n)), asked)
			if e != api.OK || got.Ledger.Gas != n+weight {
				t.Errorf("%s behind %d: %d, %v", call.Word(i+1), n, got.Ledger.Gas, e)
			}
		}
		for _, n := range []uint64{api.MaxGas - weight + 1, api.MaxGas, api.MaxGas + 1, most - weight, most} {
			failing{call.Word(i + 1), changed(gas(n)), asked, api.ErrGas}.test(t)
		}
	}
}

// TestEventsAtTheEnd: of more than may be kept the first ones are gone, of a saying two.
func TestEventsAtTheEnd(t *testing.T) {
	full := changed(events(api.MaxEvents))
	for i, asked := range good() {
		plain, _ := Do(nil, busy(), asked)
		news := plain.Ledger.Events[2:]
		got, e := Do(nil, full, asked)
		want := append(slices.Clone(full.Ledger.Events[len(news):]), news...)
		if e != api.OK || !slices.Equal(got.Ledger.Events, want) || len(news) != 1+i/11 {
			t.Errorf("%s: %v, %d events", call.Word(i+1), e, len(news))
		}
	}
}

// named is none of the calls, whatever it is called.
type named api.Pay

func TestNoCall(t *testing.T) {
	pay := api.Pay{From: "ada", To: "bob", Amount: 7, Nonce: 4}
	for _, asked := range []any{
		nil, 5, "pay", true, 1.5, []byte{1}, []any{pay}, map[string]any{"pay": pay}, func() {}, struct{}{}, struct{ api.Pay }{pay}, [1]api.Pay{pay}, named(pay), &pay, (*api.Pay)(nil), (*api.Process)(nil), api.OK,
		api.Update{}, api.Stop{}, api.Letter{}, api.Transfer{}, api.Saying{}, api.Detail{}, api.Chain{}, api.Event{}, api.Sig{}, api.Digest{},
	} {
		for _, c := range []api.Chain{busy(), {}, changed(gas(most), failHome, failReplica)} {
			failing{"no call", c, asked, api.ErrArg}.test(t)
		}
	}
}

// TestSigned: each of the signed calls by somebody who has an account, for that chain, with that nonce.
func TestSigned(t *testing.T) {
	unsigned := func(from string, nonce uint64) []any {
		return []any{
			api.Pay{From: from, To: "bob", Amount: 7, Nonce: nonce},
			api.Send{From: from, Origin: 1, Token: "mint", To: "bob", Amount: 7, Nonce: nonce},
			api.Say{From: from, Text: "hi", Nonce: nonce},
			api.Tell{From: from, Token: "mint", Nonce: nonce},
		}
	}
	for i := range 4 {
		pick := func(from string, nonce uint64) any { return unsigned(from, nonce)[i] }
		word := call.Word(i + 1)
		if _, e := Do(nil, busy(), signed(pick("ada", 4))); e != api.OK {
			t.Error(word, e)
		}
		index := signed(pick("ada", 4))
		_, _, sig, _ := call.Signed(index)
		sig.Index++
		bare := sig
		bare.Index, bare.Parts = 3, nil
		for _, f := range []failing{
			{"nobody", busy(), signed(pick("zoe", 4)), api.ErrNone},
			{"no name", busy(), signed(pick("", 4)), api.ErrNone},
			{"a capital", busy(), signed(pick("Ada", 4)), api.ErrNone},
			{"no accounts", changed(func(c *api.Chain) { c.Ledger.Accounts = nil }), signed(pick("ada", 4)), api.ErrNone},
			{"an earlier nonce", busy(), signed(pick("ada", 3)), api.ErrNonce},
			{"a later nonce", busy(), signed(pick("ada", 5)), api.ErrNonce},
			{"the greatest nonce", busy(), signed(pick("ada", most)), api.ErrNonce},
			{"no nonce behind it", busy(), signed(pick("zed", most)), api.ErrOver},
			{"no nonce behind it, unsigned", busy(), pick("zed", most), api.ErrOver},
			{"unsigned", busy(), pick("ada", 4), api.ErrSig},
			{"by somebody else", busy(), signedOn(bob, 1, pick("ada", 4)), api.ErrSig},
			{"in somebody else's name", busy(), signed(pick("bob", 0)), api.ErrSig},
			{"in the name of a zero key", busy(), signed(pick("eve", 0)), api.ErrSig},
			{"for another chain", busy(), signedOn(ada, 2, pick("ada", 4)), api.ErrSig},
			{"for chain 0", busy(), signedOn(ada, 0, pick("ada", 4)), api.ErrSig},
			{"of another nonce", changed(func(c *api.Chain) { c.Ledger.Accounts[atAda].Nonce = 5 }), resigned(signed(pick("ada", 4)), pick("ada", 5)), api.ErrSig},
			{"of another name", changed(func(c *api.Chain) { c.Ledger.Accounts[atBob].Nonce, c.Ledger.Accounts[atBob].Key = 4, ada.Root(nil) }), resigned(signed(pick("ada", 4)), pick("bob", 4)), api.ErrSig},
			{"of another call", busy(), resigned(signed(pick("ada", 4)), unsigned("ada", 4)[(i+1)%4]), api.ErrSig},
			{"by another key", busy(), call.With(index, sig), api.ErrSig},
			{"by nothing of a key", busy(), call.With(index, bare), api.ErrSig},
		} {
			f.told = word + ", " + f.told
			f.test(t)
		}
	}
}

// resigned: a call with the signature that another one has.
func resigned(from, to any) any {
	_, _, sig, _ := call.Signed(from)
	return call.With(to, sig)
}

// TestSignedWhole: not a field may be another one than was signed.
func TestSignedWhole(t *testing.T) {
	for i, list := range [][]any{
		{api.Pay{From: "ada", To: "bob", Amount: 7, Nonce: 4}, api.Pay{From: "ada", To: "eve", Amount: 7, Nonce: 4}, api.Pay{From: "ada", To: "bob", Amount: 8, Nonce: 4}},
		{
			api.Send{From: "ada", Origin: 1, Token: "mint", To: "bob", Amount: 7, Nonce: 4}, api.Send{From: "ada", Origin: 2, Token: "mint", To: "bob", Amount: 7, Nonce: 4},
			api.Send{From: "ada", Origin: 1, Token: "gold", To: "bob", Amount: 7, Nonce: 4}, api.Send{From: "ada", Origin: 1, Token: "mint", To: "eve", Amount: 7, Nonce: 4}, api.Send{From: "ada", Origin: 1, Token: "mint", To: "bob", Amount: 8, Nonce: 4},
		},
		{api.Say{From: "ada", Text: "hi", Nonce: 4}, api.Say{From: "ada", Text: "ho", Nonce: 4}},
		{api.Tell{From: "ada", Token: "mint", Nonce: 4}, api.Tell{From: "ada", Token: "gold", Nonce: 4}},
	} {
		for j, x := range list {
			for k, y := range list {
				if j != k {
					failing{call.Word(i + 1), busy(), resigned(signed(x), y), api.ErrSig}.test(t)
				}
			}
		}
	}
}

// TestOrderOfErrors: step by step, the first error is the call's.
func TestOrderOfErrors(t *testing.T) {
	full := gas(api.MaxGas)
	for _, f := range []failing{
		{"no gas, nobody", changed(full), api.Pay{From: "zoe", Nonce: 9}, api.ErrGas},
		{"no gas, another nonce", changed(full), api.Say{From: "ada", Text: "\n", Nonce: 9}, api.ErrGas},
		{"no gas, unsigned", changed(full), api.Send{From: "ada", Nonce: 4}, api.ErrGas},
		{"no gas, and its own work's", changed(full), signed(api.Pay{From: "ada", To: "zoe", Nonce: 4}), api.ErrGas},
		{"no gas, and a home's", changed(full, failHome), api.Submit{}, api.ErrGas},
		{"no gas, and a replica's", changed(full, failReplica), api.Process{}, api.ErrGas},
		{"nobody, and all else", busy(), api.Send{From: "zoe", Nonce: 9}, api.ErrNone},
		{"another nonce, and all else", busy(), api.Say{From: "ada", Text: "\n", Nonce: 9}, api.ErrNonce},
		{"no nonce behind it, and all else", busy(), api.Tell{From: "zed", Nonce: most}, api.ErrOver},
		{"unsigned, too much", busy(), api.Pay{From: "ada", To: "zoe", Amount: 51, Nonce: 4}, api.ErrSig},
		{"unsigned, no such token", busy(), api.Tell{From: "ada", Token: "zinc", Nonce: 4}, api.ErrSig},
		{"no such token, and failed", changed(failHome), sent(1, "zinc", "bob", 7), api.ErrToken},
		{"too much, and failed", changed(failHome), sent(1, "mint", "bob", 21), api.ErrUnder},
		{"no text, and failed", changed(failHome), signed(api.Say{From: "ada", Text: "\n", Nonce: 4}), api.ErrForm},
		{"no such token told, and failed", changed(failHome), signed(api.Tell{From: "ada", Token: "zinc", Nonce: 4}), api.ErrToken},
		{"under a root that waits, and no router's", changed(func(c *api.Chain) { c.Remote = "" }), api.Process{Letter: inbox[waits]}, api.ErrWait},
	} {
		f.test(t)
	}
}

// TestTwoOfOneName: the first account of a name is the one that signs, and pays.
func TestTwoOfOneName(t *testing.T) {
	twice := changed(func(c *api.Chain) {
		c.Ledger.Accounts = append(c.Ledger.Accounts, api.Account{Name: "ada", Key: bob.Root(nil), Nonce: 9, Coins: 1000})
	})
	pay := func(n, nonce uint64) any { return api.Pay{From: "ada", To: "bob", Amount: n, Nonce: nonce} }
	doing{"the first one", twice, signed(pay(7, 4)), []api.Event{{Kind: api.Paid, Name: "bob", Number: 7}}, func(c *api.Chain) { coins(atAda, 43)(c); coins(atBob, 14)(c) }}.test(t)
	failing{"the second one's coins", twice, signed(pay(51, 4)), api.ErrUnder}.test(t)
	failing{"the second one's nonce", twice, signedOn(bob, 1, pay(7, 9)), api.ErrNonce}.test(t)
	failing{"the second one's key", twice, signedOn(bob, 1, pay(7, 4)), api.ErrSig}.test(t)
}

// TestNoted: the digests that a call is about are noted in the log.
func TestNoted(t *testing.T) {
	for i, asked := range good() {
		l := digest.New()
		got, e := Do(l, busy(), asked)
		if e != api.OK || l.Clash() {
			t.Error(call.Word(i+1), e)
		}
		if _, _, _, is := call.Signed(asked); is && !l.Has(call.Digest(nil, 1, asked)) {
			t.Error(call.Word(i+1), "what is signed isn't noted")
		}
		tag := i + 1
		if happened := got.Ledger.Events[2]; (tag >= 2 && tag <= 4 || tag == 12) && !l.Has(happened.Digest) {
			t.Error(call.Word(tag), "the leaf isn't noted")
		}
	}
}

// TestWhatIsAskedStays: a call is neither changed nor kept.
func TestWhatIsAskedStays(t *testing.T) {
	calls, were := good(), good()
	for i, asked := range calls {
		got, e := Do(nil, busy(), asked)
		was := copied(got)
		if e != api.OK || !reflect.DeepEqual(asked, were[i]) {
			t.Error(call.Word(i+1), "was changed", e)
		}
		switch x := asked.(type) {
		case api.Prove:
			fill(x.Branch, some(-99))
		case api.Accept:
			fill(x.Update.Sig.Parts, some(-99))
		case api.Halt:
			fill(x.Stop.Sig.Path, some(-99))
		}
		if !same(got, was) {
			t.Error(call.Word(i+1), "is kept")
		}
	}
}

// TestExample: the chapter's.
func TestExample(t *testing.T) {
	if _, e := Do(nil, api.Chain{}, nil); e != api.ErrArg {
		t.Error(e)
	}
}
