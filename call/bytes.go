package call

import (
	"unicode/utf8"

	"pontoon/api"
	"pontoon/letter"
	"pontoon/update"
	"pontoon/wire"
)

// How many bytes texts have at most, and how many digests a branch, where they are read.
const (
	nameMost   = utf8.UTFMax * api.MaxName
	saidMost   = utf8.UTFMax * api.MaxText
	updateMost = 4096
	stopMost   = 4096
	letterMost = 512
	branchMost = 64
)

// Bytes: its bytes.
func Bytes(c any) (string, api.Errno) {
	tag := tagOf(c)
	if tag == 0 {
		return "", api.ErrArg
	}
	rest, e := fields(c)
	if e != api.OK {
		return "", e
	}
	return wire.Byte(uint8(tag)) + rest, api.OK
}

// fields: what stands behind the tag.
func fields(c any) (string, api.Errno) {
	switch x := c.(type) {
	case api.Pay:
		return wire.Text(x.From) + wire.Text(x.To) + wire.Long(x.Amount) + signing(x.Nonce, x.Sig), api.OK
	case api.Send:
		return wire.Text(x.From) + wire.Word(x.Origin) + wire.Text(x.Token) + wire.Text(x.To) +
			wire.Long(x.Amount) + signing(x.Nonce, x.Sig), api.OK
	case api.Say:
		return wire.Text(x.From) + wire.Text(x.Text) + signing(x.Nonce, x.Sig), api.OK
	case api.Tell:
		return wire.Text(x.From) + wire.Text(x.Token) + signing(x.Nonce, x.Sig), api.OK
	case api.Submit:
		return updateText(x.Update), api.OK
	case api.Improper:
		return updateText(x.Update) + wire.Text(x.By), api.OK
	case api.Double:
		return updateText(x.A) + updateText(x.B) + wire.Text(x.By), api.OK
	case api.Accept:
		return updateText(x.Update), api.OK
	case api.Doubled:
		return updateText(x.A) + updateText(x.B), api.OK
	case api.Halt:
		return wire.Text(update.StopBytes(x.Stop)), api.OK
	case api.Prove:
		return wire.Digest(x.Leaf) + wire.Word(x.Index) + wire.Digests(x.Branch), api.OK
	case api.Process:
		text, e := letter.Bytes(x.Letter)
		return wire.Text(text), e
	}
	return "", api.ErrArg
}

// signing: with what every signed call ends.
func signing(nonce uint64, g api.Sig) string { return wire.Long(nonce) + wire.Sig(g) }

func updateText(u api.Update) string { return wire.Text(update.Bytes(u)) }

// Read: the call that bytes are.
func Read(s string) (any, api.Errno) {
	o := opener{Reader: wire.Over(s)}
	c := o.call()
	if e := o.End(); e != api.OK {
		return nil, e
	}
	if o.inner != api.OK {
		return nil, o.inner
	}
	return c, api.OK
}

// opener reads a call, and opens the texts in it on the way; what is wrong inside of them counts behind all that is wrong outside.
type opener struct {
	*wire.Reader
	inner api.Errno
}

// call: a call off the front. A literal's calls are made from left to right: its fields stand as the bytes do.
func (o *opener) call() any {
	switch o.Byte() {
	case tagPay:
		return api.Pay{From: o.name(), To: o.name(), Amount: o.Long(), Nonce: o.Long(), Sig: o.Sig()}
	case tagSend:
		return api.Send{From: o.name(), Origin: o.Word(), Token: o.name(), To: o.name(), Amount: o.Long(), Nonce: o.Long(), Sig: o.Sig()}
	case tagSay:
		return api.Say{From: o.name(), Text: o.Text(saidMost), Nonce: o.Long(), Sig: o.Sig()}
	case tagTell:
		return api.Tell{From: o.name(), Token: o.name(), Nonce: o.Long(), Sig: o.Sig()}
	case tagSubmit:
		return api.Submit{Update: o.update()}
	case tagImproper:
		return api.Improper{Update: o.update(), By: o.name()}
	case tagDouble:
		return api.Double{A: o.update(), B: o.update(), By: o.name()}
	case tagAccept:
		return api.Accept{Update: o.update()}
	case tagDoubled:
		return api.Doubled{A: o.update(), B: o.update()}
	case tagHalt:
		return api.Halt{Stop: o.stop()}
	case tagProve:
		return api.Prove{Leaf: o.Digest(), Index: o.Word(), Branch: o.Digests(branchMost)}
	case tagProcess:
		return api.Process{Letter: o.letter()}
	}
	o.Fail(api.ErrForm)
	return nil
}

func (o *opener) name() string { return o.Text(nameMost) }

func (o *opener) update() api.Update {
	u, e := update.Read(o.Text(updateMost))
	o.note(e)
	return u
}

func (o *opener) stop() api.Stop {
	s, e := update.ReadStop(o.Text(stopMost))
	o.note(e)
	return s
}

func (o *opener) letter() api.Letter {
	x, e := letter.Read(o.Text(letterMost))
	o.note(e)
	return x
}

// note: the first error of the texts is kept.
func (o *opener) note(e api.Errno) {
	if o.inner == api.OK {
		o.inner = e
	}
}
