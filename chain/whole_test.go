package chain

import (
	"math/rand"
	"slices"
	"strings"
	"testing"

	"pontoon/amount"
	"pontoon/api"
	"pontoon/call"
	"pontoon/digest"
	"pontoon/home"
	"pontoon/keys"
	"pontoon/ledger"
	"pontoon/purse"
)

// asks: calls of all kinds, and what is none, those that a chain does and those that it doesn't.
func asks(c api.Chain) []any {
	by1 := by(updater, c.ID, c.Home.Committed, some(1))
	list := append(good(),
		nil, 5, &api.Pay{},
		api.Pay{}, api.Send{}, api.Say{}, api.Tell{}, api.Submit{}, api.Improper{}, api.Double{}, api.Accept{}, api.Doubled{}, api.Halt{}, api.Prove{}, api.Process{},
		api.Pay{From: "ada", To: "bob", Nonce: 4}, api.Prove{Index: end, Branch: make([]api.Digest, 33)}, api.Halt{Stop: api.Stop{Home: 2, Key: theirs.Root(nil), Watcher: -1}},
		api.Process{Letter: api.Letter{From: 2, To: 1, Sender: "\xff", Body: strings.Repeat("x", 70000)}},
		api.Improper{Update: by1, By: "treasury"}, api.Improper{Update: by1, By: "zoe"}, api.Accept{Update: by(theirs, 2, c.Replica.Committed, roots[waits])},
	)
	for _, s := range []keys.Signer{ada, other} {
		for _, x := range []any{
			api.Pay{From: "ada", To: "ada", Amount: 50, Nonce: 4}, api.Pay{From: "ada", To: "zoe", Amount: 1, Nonce: 4}, api.Pay{From: "zed", To: "ada", Nonce: most}, api.Tell{From: "ada", Token: "mint", Nonce: 5},
			api.Send{From: "ada", Origin: 2, Token: "gold", To: "ada", Amount: 10, Nonce: 4}, api.Send{From: "ada", Origin: 2, Token: "gold", To: "ada", Amount: most, Nonce: 4}, api.Say{From: "ada", Text: "\n", Nonce: 4},
		} {
			list = append(list, signedOn(s, c.ID, x))
		}
	}
	for at, x := range inbox {
		list = append(list, api.Process{Letter: x}, proof(inboxLength, at))
	}
	for _, new := range c.Home.Queue[:min(2, len(c.Home.Queue))] {
		list = append(list, api.Submit{Update: by(updater, c.Home.Chain, c.Home.Committed, new)})
	}
	return list
}

// moves: which calls change coins, which the purse.
func moves(asked any) (coins, purse bool) {
	switch asked.(type) {
	case api.Pay, api.Improper, api.Double:
		return true, false
	case api.Send, api.Process:
		return false, true
	}
	return false, false
}

// coinsOf: who has how many.
func coinsOf(c api.Chain) []uint64 {
	var list []uint64
	for _, a := range c.Ledger.Accounts {
		list = append(list, a.Coins)
	}
	return list
}

// asked: a call on a chain, with a log and without one: errors leave the chain as it is, no log makes a difference, what was right is right, only what may change coins or the purse does.
func asked(t *testing.T, l *digest.Log, c api.Chain, right bool, x any) api.Errno {
	t.Helper()
	kept, whole := keep(c)
	got, e := Do(nil, kept, x)
	again, f := Do(l, kept, x)
	told := call.Word(call.Tag(x))
	if e != f || !same(got, again) {
		t.Fatalf("%s: once %v, once %v", told, e, f)
	}
	if e != api.OK && !same(got, c) {
		t.Fatalf("%s: %v, but the chain is another one%s", told, e, unlike(got, c))
	}
	if right && !Right(nil, got) {
		t.Fatalf("%s: isn't right any more", told)
	}
	coins, tokens := moves(x)
	if !coins && !slices.Equal(coinsOf(got), coinsOf(c)) || !tokens && !samePurse(got.Purse, c.Purse) {
		t.Fatalf("%s: changed what it may not", told)
	}
	was := copied(again)
	scribble(got)
	if !whole() || !same(again, was) {
		t.Fatalf("%s: shares memory, or the argument was changed", told)
	}
	return e
}

// TestAnyCall: at all chains and calls that are at hand.
func TestAnyCall(t *testing.T) {
	l := digest.New()
	found, done := map[api.Errno]int{}, map[int]int{}
	many := len(rights())
	for i, c := range chains() {
		for _, x := range asks(c) {
			// Whether a great home or replica is right takes long to tell: of those a few calls are asked.
			if len(c.Home.Leaves)+len(c.Replica.States) > 1000 && call.Tag(x)%3 != i%3 {
				continue
			}
			e := asked(t, l, c, i < many, x)
			found[e]++
			if e == api.OK {
				done[call.Tag(x)]++
			}
		}
	}
	for _, e := range []api.Errno{
		api.OK, api.ErrArg, api.ErrForm, api.ErrOver, api.ErrUnder, api.ErrCap, api.ErrNone, api.ErrNonce, api.ErrSig, api.ErrGas, api.ErrFailed, api.ErrRoot, api.ErrOld, api.ErrFraud, api.ErrCut,
		api.ErrProof, api.ErrWait, api.ErrStatus, api.ErrDest, api.ErrRouter, api.ErrToken, api.ErrHandler, api.ErrMany,
	} {
		if found[e] == 0 {
			t.Errorf("%v never came about", e)
		}
	}
	if len(done) != 12 || l.Clash() {
		t.Error("of the calls there were done", done)
	}
}

// TestOtherAnswers: Enrol and Tick, at all chains: arguments stay, answers have memory of their own, what was right is right.
func TestOtherAnswers(t *testing.T) {
	many := len(rights())
	for i, c := range chains() {
		for _, do := range []func(c api.Chain) (api.Chain, api.Errno){
			func(c api.Chain) (api.Chain, api.Errno) { return Enrol(c, "pier") },
			func(c api.Chain) (api.Chain, api.Errno) { return Enrol(c, "") },
			func(c api.Chain) (api.Chain, api.Errno) { return Tick(c, 1) },
			func(c api.Chain) (api.Chain, api.Errno) { return Tick(c, most) },
		} {
			kept, whole := keep(c)
			got, e := do(kept)
			again, _ := do(kept)
			if e != api.OK && !same(got, c) {
				t.Errorf("%d: %v, but the chain is another one", i, e)
			}
			if i < many && len(c.Home.Leaves) < 1000 && !Right(nil, got) {
				t.Errorf("%d: isn't right any more", i)
			}
			was := copied(again)
			scribble(got)
			if !whole() || !same(again, was) {
				t.Errorf("%d: shares memory, or the argument was changed", i)
			}
		}
		if kept, whole := keep(c); Letters(kept) != len(c.Home.Leaves) || Right(nil, kept) != (i < many) || !whole() {
			t.Errorf("%d: the argument was changed", i)
		}
	}
}

// TestBurnOfWhatWasGranted: what layer 14 says of a purse is so of a chain: a burn of more than was minted leaves no right one.
func TestBurnOfWhatWasGranted(t *testing.T) {
	c := changed(func(c *api.Chain) { c.Purse, _ = purse.Grant(c.Purse, 2, "gold", "ada", 1) })
	got, e := Do(nil, c, sent(2, "gold", "bob", 11))
	if !Right(nil, c) || e != api.OK || Right(nil, got) || got.Purse.Tokens[1].Burned != 13 {
		t.Error(e, got.Purse)
	}
}

// walk: two chains with what is done on them, and what must come of that.
type walk struct {
	t       *testing.T
	random  *rand.Rand
	l       *digest.Log
	sides   [2]api.Chain
	sent    [2][]api.Letter // what set out from a side
	leaves  [2][]api.Digest
	taken   [2][]api.Update // what a side's home took
	brought [2]int          // how many of those the other side accepted
	gone    [2]map[int]int  // which letters of a side were processed on the other one, and how often
	past    [2][]any        // the signed calls that were done on a side
	done    [13]int         // how many calls of each tag were
	again   int             // how many were replayed
}

var (
	whos    = []string{"ada", "bob"}
	signers = []keys.Signer{ada, bob}
	homes   = []keys.Signer{updater, theirs}
)

// begun: two chains that know each other, each with a token of its own that the other one knows, too.
func begun(t *testing.T, seed int64) *walk {
	w := &walk{t: t, random: rand.New(rand.NewSource(seed)), l: digest.New()}
	for i := range w.sides {
		id, other := uint32(i+1), uint32(2-i)
		c := New(w.l, id, other, homes[i].Root(nil), homes[1-i].Root(nil), watching, 3, 11)
		c, _ = Enrol(c, "router")
		for j, who := range append(slices.Clone(whos), "treasury") {
			key := api.Digest{}
			if j < 2 {
				key = signers[j].Root(nil)
			}
			c.Ledger, _ = ledger.Open(c.Ledger, who, key, 100)
		}
		for _, origin := range []uint32{1, 2} {
			c.Purse, _ = purse.Enlist(c.Purse, origin, "mint", 200)
		}
		c.Purse, _ = purse.Grant(c.Purse, id, "mint", "ada", 60)
		c.Purse, _ = purse.Grant(c.Purse, id, "mint", "bob", 40)
		w.sides[i], w.gone[i] = c, map[int]int{}
	}
	return w
}

// try: a call on a side; if it is done, what the chapter says of it is noted.
func (w *walk) try(i int, x any) api.Errno {
	w.t.Helper()
	c := w.sides[i]
	weight, left := weights[call.Tag(x)], api.MaxGas-c.Ledger.Gas
	d, e := Do(w.l, c, x)
	if (e == api.ErrGas) != (weight > left) {
		w.t.Fatalf("%v: it weighs %d, there is %d", e, weight, left)
	}
	if e != api.OK {
		if !same(d, c) {
			w.t.Fatalf("%v, but it changed something", e)
		}
		return e
	}
	coins, tokens := moves(x)
	if !coins && !slices.Equal(coinsOf(d), coinsOf(c)) || !tokens && !samePurse(d.Purse, c.Purse) {
		w.t.Fatal("a call changed what it may not")
	}
	w.done[call.Tag(x)]++
	w.sides[i] = d
	if _, _, _, is := call.Signed(x); is {
		w.past[i] = append(w.past[i], x)
	}
	return e
}

// asks: somebody's signed call on a side.
func (w *walk) asks(i int) {
	who := w.random.Intn(2)
	account, _ := ledger.Find(w.sides[i].Ledger, whos[who])
	origin, n, to := uint32(1+w.random.Intn(2)), uint64(w.random.Intn(30)), whos[w.random.Intn(2)]
	body := ""
	var x any
	switch w.random.Intn(6) {
	case 0:
		x = api.Pay{From: whos[who], To: to, Amount: n, Nonce: account.Nonce}
	case 1:
		x, body = api.Say{From: whos[who], Text: to, Nonce: account.Nonce}, saying(whos[who], to)
	case 2:
		x, body = api.Tell{From: whos[who], Token: "mint", Nonce: account.Nonce}, detail(uint32(i+1), "mint", 200)
	default:
		x, body = api.Send{From: whos[who], Origin: origin, Token: "mint", To: to, Amount: n, Nonce: account.Nonce}, transfer(origin, "mint", to, n)
	}
	e := w.try(i, signedOn(signers[who], uint32(i+1), x))
	if e != api.OK && e != api.ErrGas && e != api.ErrUnder && e != api.ErrForm {
		w.t.Fatal(e)
	}
	if e == api.OK && body != "" {
		letter := api.Letter{From: uint32(i + 1), Nonce: uint32(len(w.sent[i])), To: uint32(2 - i), Sender: "router", Receiver: "router", Body: body}
		w.sent[i], w.leaves[i] = append(w.sent[i], letter), append(w.leaves[i], leafOf(letter))
	}
}

// carries: a root is signed, and brought.
func (w *walk) carries(i int) {
	if old, new, ok := home.Suggest(w.sides[i].Home); ok {
		u := by(homes[i], uint32(i+1), old, new)
		if w.try(i, api.Submit{Update: u}) == api.OK {
			w.taken[i] = append(w.taken[i], u)
		}
	}
	if w.brought[i] < len(w.taken[i]) && w.try(1-i, api.Accept{Update: w.taken[i][w.brought[i]]}) == api.OK {
		w.brought[i]++
	}
}

// brings: a letter of a side is proven, or processed, on the other one, whenever.
func (w *walk) brings(i int) {
	if len(w.sent[i]) == 0 {
		return
	}
	at := w.random.Intn(len(w.sent[i]))
	if w.random.Intn(2) == 0 {
		// Any of the roots that there ever were.
		n := at + 1 + w.random.Intn(len(w.sent[i])-at)
		_, branch := branchOf(w.leaves[i][:n], at)
		w.try(1-i, api.Prove{Leaf: w.leaves[i][at], Index: uint32(at), Branch: branch})
		return
	}
	x := w.sent[i][at]
	if w.random.Intn(8) == 0 {
		x.Body = saying("ada", "forged")
		if e := w.try(1-i, api.Process{Letter: x}); e != api.ErrStatus && e != api.ErrGas {
			w.t.Fatalf("a letter that wasn't sent: %v", e)
		}
	} else if w.try(1-i, api.Process{Letter: x}) == api.OK {
		w.gone[i][at]++
	}
}

// replays: a signed call that was done is asked again, on both sides.
func (w *walk) replays(i int) {
	if len(w.past[i]) == 0 {
		return
	}
	x := w.past[i][w.random.Intn(len(w.past[i]))]
	if e := w.try(i, x); e != api.ErrNonce && e != api.ErrGas {
		w.t.Fatalf("a call that was done, again: %v", e)
	}
	if e := w.try(1-i, x); e == api.OK {
		w.t.Fatal("a call that was signed for the other chain was done")
	}
	w.again++
}

// look: is all as it must be?
func (w *walk) look() {
	w.t.Helper()
	for i, c := range w.sides {
		if !Right(nil, c) || Letters(c) != len(w.sent[i]) || !slices.Equal(c.Home.Leaves, w.leaves[i]) {
			w.t.Fatalf("side %d isn't right, or letters set out that nobody sent", i)
		}
		sum, _ := ledger.Total(c.Ledger).Add(amount.Wide{Low: c.Home.Bond})
		if (sum != amount.Wide{Low: 311}) {
			w.t.Fatalf("side %d has %v coins", i, sum)
		}
		here, _ := purse.Known(c.Purse, c.ID, "mint")
		there, _ := purse.Known(w.sides[1-i].Purse, c.ID, "mint")
		minted, _ := purse.Out(there)
		_, locked := purse.Out(here)
		if minted > locked || purse.Supply(c.Purse, c.ID, "mint").Low+locked != 100 || purse.Supply(w.sides[1-i].Purse, c.ID, "mint").Low != minted {
			w.t.Fatalf("of side %d: %d minted, %d locked", i, minted, locked)
		}
		for at, n := range w.gone[i] {
			if n != 1 {
				w.t.Fatalf("letter %d of side %d was processed %d times", at, i, n)
			}
		}
	}
}

// TestWalk: whatever is asked, in whatever order: a call with an error changes nothing, replayed calls are refused, both chains stay right, what is processed was sent, and is processed once, and all that was sent is, in the end.
func TestWalk(t *testing.T) {
	var done [13]int
	again := 0
	for seed := range int64(8) {
		w := begun(t, seed)
		for range 400 {
			i := w.random.Intn(2)
			switch w.random.Intn(8) {
			case 0:
				w.sides[i], _ = Tick(w.sides[i], uint64(w.random.Intn(4)))
			case 1, 2:
				w.asks(i)
			case 3:
				w.carries(i)
			case 4:
				w.replays(i)
			default:
				w.brings(i)
			}
			w.look()
		}
		w.arrive()
		w.fraud(seed%2 == 0)
		for tag, n := range w.done {
			done[tag] += n
		}
		again += w.again
	}
	for tag, n := range done[1:] {
		if n < 4 {
			t.Errorf("%s was done %d times", call.Word(tag+1), n)
		}
	}
	if again < 100 {
		t.Errorf("%d calls were replayed", again)
	}
}

// arrive: all letters that aren't yet are processed.
func (w *walk) arrive() {
	for i := range w.sides {
		w.tick(i, 0)
		w.carries(i)
		for w.brought[i] < len(w.taken[i]) {
			w.tick(1-i, 0)
			w.carries(i)
		}
		w.tick(1-i, 3)
		for at, x := range w.sent[i] {
			w.tick(1-i, 0)
			if w.gone[i][at] > 0 {
				continue
			}
			_, branch := branchOf(w.leaves[i], at)
			if e := w.try(1-i, api.Prove{Leaf: w.leaves[i][at], Index: uint32(at), Branch: branch}); e != api.OK {
				w.t.Fatalf("letter %d of side %d can't be proven: %v", at, i, e)
			}
			if e := w.try(1-i, api.Process{Letter: x}); e != api.OK {
				w.t.Fatalf("letter %d of side %d can't be processed: %v", at, i, e)
			}
			w.gone[i][at]++
			w.look()
		}
	}
}

func (w *walk) tick(i int, by uint64) {
	var e api.Errno
	if w.sides[i], e = Tick(w.sides[i], by); e != api.OK {
		w.t.Fatal(e)
	}
}

// fraud: whoever has the updater's key signs another root, which home 0 refuses, and replica 0 takes; a watcher, or two updates, put an end to both.
func (w *walk) fraud(twofold bool) {
	w.tick(0, 0)
	w.tick(1, 0)
	account, _ := ledger.Find(w.sides[0].Ledger, "ada")
	old := w.sides[0].Home.Committed
	bad, worse := by(updater, 1, old, some(1)), by(updater, 1, old, some(2))
	var slash, end any = api.Improper{Update: bad, By: "bob"}, stopOf(watchers[1], 1, updater.Root(nil), 1)
	if twofold {
		slash, end = api.Double{A: bad, B: worse, By: "bob"}, api.Doubled{A: bad, B: worse}
	}
	for _, c := range []struct {
		side   int
		x      any
		wanted api.Errno
	}{
		{0, api.Submit{Update: bad}, api.ErrRoot},
		{1, api.Accept{Update: bad}, api.OK},
		{1, end, api.OK},
		{0, slash, api.OK},
		{0, slash, api.ErrFailed},
		{0, signed(api.Say{From: "ada", Nonce: account.Nonce}), api.ErrFailed},
	} {
		if e := w.try(c.side, c.x); e != c.wanted {
			w.t.Fatalf("%s: %v, wanted %v", call.Word(call.Tag(c.x)), e, c.wanted)
		}
	}
	bob, _ := ledger.Find(w.sides[0].Ledger, "bob")
	treasury, _ := ledger.Find(w.sides[0].Ledger, "treasury")
	events := w.sides[0].Ledger.Events
	if events[len(events)-1] != (api.Event{Kind: api.Slashed, Name: "bob", Number: 5, Digest: updater.Root(nil)}) || treasury.Coins != 106 || bob.Coins < 5 {
		w.t.Fatal("the bond went elsewhere", events[len(events)-1], treasury.Coins)
	}
	w.look()
}
