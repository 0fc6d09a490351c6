package call

import (
	"slices"

	"pontoon/api"
	"pontoon/letter"
)

// Same: are two the same?
func Same(a, b any) bool {
	tag := tagOf(a)
	return tag != 0 && tag == tagOf(b) && sameFields(a, b)
}

// sameFields: of two calls of one tag, so that what the one is the other one is, too.
func sameFields(a, b any) bool {
	switch x := a.(type) {
	case api.Pay:
		return samePay(x, b.(api.Pay))
	case api.Send:
		return sameSend(x, b.(api.Send))
	case api.Say:
		return sameSay(x, b.(api.Say))
	case api.Tell:
		return sameTell(x, b.(api.Tell))
	case api.Submit:
		return sameUpdate(x.Update, b.(api.Submit).Update)
	case api.Improper:
		y := b.(api.Improper)
		return sameUpdate(x.Update, y.Update) && x.By == y.By
	case api.Double:
		y := b.(api.Double)
		return sameUpdate(x.A, y.A) && sameUpdate(x.B, y.B) && x.By == y.By
	case api.Accept:
		return sameUpdate(x.Update, b.(api.Accept).Update)
	case api.Doubled:
		y := b.(api.Doubled)
		return sameUpdate(x.A, y.A) && sameUpdate(x.B, y.B)
	case api.Halt:
		return sameStop(x.Stop, b.(api.Halt).Stop)
	case api.Prove:
		y := b.(api.Prove)
		return x.Leaf == y.Leaf && x.Index == y.Index && slices.Equal(x.Branch, y.Branch)
	case api.Process:
		return letter.Same(x.Letter, b.(api.Process).Letter)
	}
	return false
}

func samePay(a, b api.Pay) bool {
	return a.From == b.From && a.To == b.To && a.Amount == b.Amount &&
		a.Nonce == b.Nonce && sameSig(a.Sig, b.Sig)
}

func sameSend(a, b api.Send) bool {
	return a.From == b.From && a.Origin == b.Origin && a.Token == b.Token && a.To == b.To && a.Amount == b.Amount &&
		a.Nonce == b.Nonce && sameSig(a.Sig, b.Sig)
}

func sameSay(a, b api.Say) bool {
	return a.From == b.From && a.Text == b.Text && a.Nonce == b.Nonce && sameSig(a.Sig, b.Sig)
}

func sameTell(a, b api.Tell) bool {
	return a.From == b.From && a.Token == b.Token && a.Nonce == b.Nonce && sameSig(a.Sig, b.Sig)
}

func sameUpdate(a, b api.Update) bool {
	return a.Home == b.Home && a.Old == b.Old && a.New == b.New && sameSig(a.Sig, b.Sig)
}

func sameStop(a, b api.Stop) bool {
	return a.Home == b.Home && a.Key == b.Key && a.Watcher == b.Watcher && sameSig(a.Sig, b.Sig)
}

func sameSig(a, b api.Sig) bool {
	return a.Index == b.Index && slices.Equal(a.Parts, b.Parts) &&
		slices.Equal(a.Others, b.Others) && slices.Equal(a.Path, b.Path)
}
