package chain

import (
	"pontoon/api"
	"pontoon/digest"
	"pontoon/home"
	"pontoon/ledger"
	"pontoon/letter"
	"pontoon/replica"
	"pontoon/router"
)

// treasury has what of a bond isn't whose word it was.
const treasury = "treasury"

// work: a call's own work. Beside an error the chain may be half done, here and below.
func work(l *digest.Log, c api.Chain, asked any) (api.Chain, api.Errno) {
	switch x := asked.(type) {
	case api.Pay:
		return pay(c, x)
	case api.Send:
		return send(l, c, x)
	case api.Say:
		return say(l, c, x)
	case api.Tell:
		return tell(l, c, x)
	case api.Submit:
		return submit(l, c, x.Update)
	case api.Improper:
		return improper(l, c, x)
	case api.Double:
		return double(l, c, x)
	case api.Accept:
		return accept(l, c, x.Update)
	case api.Doubled:
		return doubled(l, c, x)
	case api.Halt:
		return halt(l, c, x.Stop)
	case api.Prove:
		return prove(l, c, x)
	case api.Process:
		return process(l, c, x.Letter)
	}
	return c, api.ErrArg
}

// noted: with an event more.
func noted(c api.Chain, happened api.Event) api.Chain {
	c.Ledger = ledger.Note(c.Ledger, happened)
	return c
}

func pay(c api.Chain, x api.Pay) (api.Chain, api.Errno) {
	var e api.Errno
	c.Ledger, e = ledger.Move(c.Ledger, x.From, x.To, x.Amount)
	if e != api.OK {
		return c, e
	}
	return noted(c, api.Event{Kind: api.Paid, Name: x.To, Number: x.Amount}), api.OK
}

func send(l *digest.Log, c api.Chain, x api.Send) (api.Chain, api.Errno) {
	left, body, e := router.Send(c.Purse, c.ID, x)
	if e != api.OK {
		return c, e
	}
	c.Purse = left
	return depart(l, c, x.From, body)
}

func say(l *digest.Log, c api.Chain, x api.Say) (api.Chain, api.Errno) {
	body, e := router.Say(x)
	if e != api.OK {
		return c, e
	}
	return depart(l, c, x.From, body)
}

func tell(l *digest.Log, c api.Chain, x api.Tell) (api.Chain, api.Errno) {
	body, e := router.Tell(c.Purse, c.ID, x)
	if e != api.OK {
		return c, e
	}
	return depart(l, c, x.From, body)
}

// depart: a letter of that body sets out to the other chain's router, for whoever asked for it.
func depart(l *digest.Log, c api.Chain, by, body string) (api.Chain, api.Errno) {
	h, x, e := home.Dispatch(l, c.Home, c.Replica.Chain, router.Name, c.Remote, body)
	if e != api.OK {
		return c, e
	}
	c.Home = h
	return noted(c, api.Event{Kind: api.Dispatched, Name: by, Number: uint64(x.Nonce), Digest: letter.Leaf(l, x)}), api.OK
}

func submit(l *digest.Log, c api.Chain, u api.Update) (api.Chain, api.Errno) {
	var e api.Errno
	c.Home, e = home.Submit(l, c.Home, u)
	if e != api.OK {
		return c, e
	}
	return noted(c, api.Event{Kind: api.Updated, Number: uint64(c.Home.Tree.Count), Digest: u.New}), api.OK
}

func improper(l *digest.Log, c api.Chain, x api.Improper) (api.Chain, api.Errno) {
	h, word, rest, e := home.Improper(l, c.Home, x.Update)
	if e != api.OK {
		return c, e
	}
	c.Home = h
	return slashed(c, x.By, word, rest)
}

func double(l *digest.Log, c api.Chain, x api.Double) (api.Chain, api.Errno) {
	h, word, rest, e := home.Double(l, c.Home, x.A, x.B)
	if e != api.OK {
		return c, e
	}
	c.Home = h
	return slashed(c, x.By, word, rest)
}

// slashed: the shares of a bond go to whose word it was, and to the treasury.
func slashed(c api.Chain, by string, word, rest uint64) (api.Chain, api.Errno) {
	var e api.Errno
	c.Ledger, e = ledger.Give(c.Ledger, by, word)
	if e != api.OK {
		return c, e
	}
	c.Ledger, e = ledger.Give(c.Ledger, treasury, rest)
	if e != api.OK {
		return c, e
	}
	return noted(c, api.Event{Kind: api.Slashed, Name: by, Number: word, Digest: c.Home.Updater}), api.OK
}

func accept(l *digest.Log, c api.Chain, u api.Update) (api.Chain, api.Errno) {
	var e api.Errno
	c.Replica, e = replica.Accept(l, c.Replica, c.Ledger.Time, u)
	if e != api.OK {
		return c, e
	}
	return noted(c, api.Event{Kind: api.Accepted, Number: c.Ledger.Time, Digest: u.New}), api.OK
}

func doubled(l *digest.Log, c api.Chain, x api.Doubled) (api.Chain, api.Errno) {
	var e api.Errno
	c.Replica, e = replica.Doubled(l, c.Replica, x.A, x.B)
	if e != api.OK {
		return c, e
	}
	return noted(c, api.Event{Kind: api.Broken, Number: c.Ledger.Time, Digest: c.Replica.Updater}), api.OK
}

func halt(l *digest.Log, c api.Chain, s api.Stop) (api.Chain, api.Errno) {
	var e api.Errno
	c.Replica, e = replica.Halt(l, c.Replica, s)
	if e != api.OK {
		return c, e
	}
	return noted(c, api.Event{Kind: api.Stopped, Number: uint64(s.Watcher), Digest: c.Replica.Updater}), api.OK
}

func prove(l *digest.Log, c api.Chain, x api.Prove) (api.Chain, api.Errno) {
	var e api.Errno
	c.Replica, e = replica.Prove(l, c.Replica, c.Ledger.Time, x.Leaf, x.Index, x.Branch)
	if e != api.OK {
		return c, e
	}
	return noted(c, api.Event{Kind: api.Proven, Number: uint64(x.Index), Digest: x.Leaf}), api.OK
}

func process(l *digest.Log, c api.Chain, x api.Letter) (api.Chain, api.Errno) {
	taken, e := replica.Take(l, c.Replica, c.Ledger.Time, x)
	if e != api.OK {
		return c, e
	}
	handled, y, e := router.Handle(c.Purse, c.ID, c.Remote, x)
	if e != api.OK {
		return c, e
	}
	c.Replica, c.Purse = taken, handled
	nonce := uint64(x.Nonce)
	c = noted(c, api.Event{Kind: api.Processed, Name: x.Receiver, Number: nonce, Digest: letter.Leaf(l, x)})
	if said, ok := y.(api.Saying); ok {
		c = noted(c, api.Event{Kind: api.Said, Name: said.Text, Number: nonce})
	}
	return c, api.OK
}
