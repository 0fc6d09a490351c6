package call

import (
	"slices"

	"pontoon/api"
)

// twin: a call that isn't signed, with lists of its own, since whoever is answered may write to them; what is no call as it is.
func twin(c any) any {
	switch x := c.(type) {
	case api.Submit:
		return api.Submit{Update: twinUpdate(x.Update)}
	case api.Improper:
		return api.Improper{Update: twinUpdate(x.Update), By: x.By}
	case api.Double:
		return api.Double{A: twinUpdate(x.A), B: twinUpdate(x.B), By: x.By}
	case api.Accept:
		return api.Accept{Update: twinUpdate(x.Update)}
	case api.Doubled:
		return api.Doubled{A: twinUpdate(x.A), B: twinUpdate(x.B)}
	case api.Halt:
		x.Stop.Sig = twinSig(x.Stop.Sig)
		return x
	case api.Prove:
		x.Branch = slices.Clone(x.Branch)
		return x
	}
	return c
}

func twinUpdate(u api.Update) api.Update {
	u.Sig = twinSig(u.Sig)
	return u
}

func twinSig(g api.Sig) api.Sig {
	return api.Sig{Index: g.Index, Parts: slices.Clone(g.Parts), Others: slices.Clone(g.Others), Path: slices.Clone(g.Path)}
}
