package home

import (
	"crypto/sha256"
	"encoding/binary"
	"math"
	"math/rand"
	"reflect"
	"slices"
	"strconv"
	"strings"
	"testing"

	"pontoon/api"
	"pontoon/digest"
	"pontoon/keys"
	"pontoon/merkle"
	"pontoon/update"
)

const (
	most   = math.MaxUint64
	end    = math.MaxUint32
	unlike = 99 // a chain of which there is nothing
)

// of: a digest of a domain and parts, by the library.
func of(domain byte, parts ...string) api.Digest {
	input := []byte{domain}
	for _, part := range parts {
		input = binary.BigEndian.AppendUint32(input, uint32(len(part)))
		input = append(input, part...)
	}
	return sha256.Sum256(input)
}

// leafOf: a letter's leaf, by the library.
func leafOf(x api.Letter) api.Digest {
	var b []byte
	for _, n := range []uint32{x.From, x.Nonce, x.To} {
		b = binary.BigEndian.AppendUint32(b, n)
	}
	for _, s := range []string{x.Sender, x.Receiver, x.Body} {
		b = append(binary.BigEndian.AppendUint32(b, uint32(len(s))), s...)
	}
	return of(5, string(b))
}

// rootOf: the root of the tree of leaves, by the library.
func rootOf(leaves []api.Digest) api.Digest {
	level, nought := slices.Clone(leaves), api.Digest{}
	for range 32 {
		if len(level)%2 == 1 {
			level = append(level, nought)
		}
		up := make([]api.Digest, len(level)/2)
		for i := range up {
			up[i] = of(6, string(level[2*i][:]), string(level[2*i+1][:]))
		}
		level, nought = up, of(6, string(nought[:]), string(nought[:]))
	}
	if len(level) == 0 {
		return nought
	}
	return level[0]
}

// some digest, another one for each number.
func some(n int) api.Digest {
	return sha256.Sum256([]byte(strconv.Itoa(n)))
}

func somes(n int) []api.Digest {
	list := make([]api.Digest, n)
	for i := range list {
		list[i] = some(i)
	}
	return list
}

// The updater, and somebody else.
var (
	updater = keys.New(nil, api.Digest{11})
	other   = keys.New(nil, api.Digest{12})
	root    = updater.Root(nil)
)

// by: an update that a key of a signer has signed.
func by(s keys.Signer, index int, home uint32, old, new api.Digest) api.Update {
	sig, _ := s.Again(nil, index, update.Claim(nil, home, old, new))
	return api.Update{Home: home, Old: old, New: new, Sig: sig}
}

// signed: by the updater, of home 1.
func signed(old, new api.Digest) api.Update { return by(updater, 0, 1, old, new) }

// nonces: of each two numbers the chain, and the next number of letters to it.
func nonces(pairs ...uint32) []api.Nonce {
	var list []api.Nonce
	for pair := range slices.Chunk(pairs, 2) {
		list = append(list, api.Nonce{To: pair[0], Next: pair[1]})
	}
	return list
}

// homeOf: home 1 of these leaves, whose updater has committed the root of so many of them.
func homeOf(leaves []api.Digest, committed int) api.Home {
	h := api.Home{Chain: 1, Updater: root, Tree: merkle.Keep(nil, leaves...), Leaves: leaves, Committed: rootOf(leaves[:committed]), Bond: 11}
	for n := committed + 1; n <= len(leaves); n++ {
		h.Queue = append(h.Queue, rootOf(leaves[:n]))
	}
	return h
}

// busy: of five letters two roots are committed, three are in the queue.
func busy() api.Home {
	h := homeOf(somes(5), 2)
	h.Nonces = nonces(3, 2, 2, 3)
	return h
}

// changed: a busy home, but for what is changed in it.
func changed(change func(h *api.Home)) api.Home {
	h := busy()
	change(&h)
	return h
}

func failed() api.Home {
	return changed(func(h *api.Home) { h.Failed, h.Bond = true, 0 })
}

// full: of all letters that a home may have, but so many.
func full(but int) api.Home {
	leaves := somes(api.MaxLeaves - but)
	return homeOf(leaves, len(leaves))
}

// beyond: of a letter more than a home may have, which its tree hasn't.
func beyond() api.Home {
	h := full(0)
	h.Leaves = append(h.Leaves, some(-1))
	return h
}

// waiting: with so many roots in the queue.
func waiting(n int) api.Home { return homeOf(somes(n), 0) }

// rights: homes that may be.
func rights() []api.Home {
	return []api.Home{
		homeOf(nil, 0),
		busy(),
		failed(),
		full(0),
		full(1),
		waiting(api.MaxRoots),
		waiting(api.MaxRoots - 1),
		homeOf(somes(3), 3),
		changed(func(h *api.Home) { h.Bond = 0 }),
		changed(func(h *api.Home) { h.Bond = most }),
		changed(func(h *api.Home) { h.Chain = end; h.Nonces = nonces(0, 0, 1, end, 2, end-1) }),
		changed(func(h *api.Home) { h.Chain = 0 }),
		// Of the queue the last root alone must be the tree's.
		changed(func(h *api.Home) { h.Queue = []api.Digest{h.Queue[2], {}, some(7), h.Committed, {}, h.Queue[2]} }),
		changed(func(h *api.Home) { h.Committed = api.Digest{} }),
		changed(func(h *api.Home) { h.Updater = api.Digest{} }),
		{Chain: 1, Committed: rootOf(nil), Leaves: []api.Digest{}, Queue: []api.Digest{}, Nonces: []api.Nonce{}},
	}
}

// wrongs: homes that may not be, each for one reason.
func wrongs() []api.Home {
	old := homeOf(somes(5), 5)
	old.Tree.Branches[1] = api.Digest{}
	return []api.Home{
		{},
		{Chain: 1, Committed: some(1)},
		beyond(),
		waiting(api.MaxRoots + 1),
		old,
		changed(func(h *api.Home) { h.Tree.Count = 4 }),
		changed(func(h *api.Home) { h.Tree.Count = 6 }),
		changed(func(h *api.Home) { h.Tree.Count = end }),
		changed(func(h *api.Home) { h.Tree.Branches[0][0] ^= 1 }),
		changed(func(h *api.Home) { h.Tree.Branches[2][31] ^= 1 }),
		// A level that counts for nothing.
		changed(func(h *api.Home) { h.Tree.Branches[31][31] = 1 }),
		changed(func(h *api.Home) { h.Leaves[3][9] ^= 1 }),
		changed(func(h *api.Home) { h.Leaves[0], h.Leaves[1] = h.Leaves[1], h.Leaves[0] }),
		changed(func(h *api.Home) { h.Leaves = h.Leaves[:4] }),
		changed(func(h *api.Home) { h.Leaves = append(h.Leaves, some(5)) }),
		changed(func(h *api.Home) { h.Leaves = nil }),
		changed(func(h *api.Home) { h.Queue[2][0] ^= 1 }),
		changed(func(h *api.Home) { h.Queue = h.Queue[:2] }),
		changed(func(h *api.Home) { h.Queue = append(h.Queue, h.Queue[0]) }),
		changed(func(h *api.Home) { h.Queue = nil }),
		// Where there is a queue, Committed makes up for nothing.
		changed(func(h *api.Home) { h.Committed, h.Queue = h.Queue[2], h.Queue[:2] }),
		changed(func(h *api.Home) { h.Nonces = append(h.Nonces, api.Nonce{To: 3, Next: 7}) }),
		changed(func(h *api.Home) { h.Nonces[1] = h.Nonces[0] }),
		changed(func(h *api.Home) { h.Nonces = append(h.Nonces, api.Nonce{To: 1, Next: 1}) }),
		changed(func(h *api.Home) { h.Nonces[0].To = 1 }),
		changed(func(h *api.Home) { h.Chain = 2 }),
		changed(func(h *api.Home) { h.Failed = true }),
		changed(func(h *api.Home) { h.Failed, h.Bond = true, 1 }),
		changed(func(h *api.Home) { h.Failed, h.Bond = true, most }),
	}
}

func homes() []api.Home { return append(rights(), wrongs()...) }

// same: but for whether a list without elements is nil.
func same(g, h api.Home) bool {
	return g.Chain == h.Chain && g.Updater == h.Updater && g.Tree == h.Tree && g.Committed == h.Committed && g.Bond == h.Bond && g.Failed == h.Failed &&
		slices.Equal(g.Leaves, h.Leaves) && slices.Equal(g.Queue, h.Queue) && slices.Equal(g.Nonces, h.Nonces)
}

// copied: the same, as a test needs it that doesn't trust Twin.
func copied(h api.Home) api.Home {
	h.Leaves = append([]api.Digest{}, h.Leaves...)
	h.Queue = append([]api.Digest{}, h.Queue...)
	h.Nonces = append([]api.Nonce{}, h.Nonces...)
	return h
}

// keep: a home with room behind its lists, and a look whether all of that is as it was.
func keep(h api.Home) (api.Home, func() bool) {
	leaves := append(slices.Clone(h.Leaves), some(-7), some(-8))
	queued := append(slices.Clone(h.Queue), some(-7), some(-8))
	counts := append(slices.Clone(h.Nonces), nonces(70, 0, 80, 0)...)
	were, had, counted := slices.Clone(leaves), slices.Clone(queued), slices.Clone(counts)
	h.Leaves, h.Queue, h.Nonces = leaves[:len(h.Leaves)], queued[:len(h.Queue)], counts[:len(h.Nonces)]
	return h, func() bool {
		return slices.Equal(leaves, were) && slices.Equal(queued, had) && slices.Equal(counts, counted)
	}
}

// scribble: writes all over a home's lists, the room behind them, too.
func scribble(h api.Home) {
	for _, list := range [][]api.Digest{h.Leaves[:cap(h.Leaves)], h.Queue[:cap(h.Queue)]} {
		for i := range list {
			list[i] = some(-99)
		}
	}
	counts := h.Nonces[:cap(h.Nonces)]
	for i := range counts {
		counts[i] = api.Nonce{To: unlike, Next: 99}
	}
}

func expect(t *testing.T, told string, got api.Home, e api.Errno, want api.Home, wanted api.Errno) {
	t.Helper()
	if e != wanted {
		t.Errorf("%s: %v, wanted %v", told, e, wanted)
	}
	if !same(got, want) {
		t.Errorf("%s: another home than was wanted", told)
	}
}

func TestNew(t *testing.T) {
	empty := rootOf(nil)
	for _, chain := range []uint32{0, 1, 2, end} {
		for _, bond := range []uint64{0, 1, 11, most} {
			for _, key := range []api.Digest{{}, root, some(1)} {
				l := digest.New()
				want := api.Home{Chain: chain, Updater: key, Committed: empty, Bond: bond}
				if got := New(l, chain, key, bond); !same(got, want) || !same(New(nil, chain, key, bond), want) || !Right(nil, got) {
					t.Errorf("%d, %d: %+v", chain, bond, got)
				}
				if !l.Has(empty) {
					t.Error("the root isn't noted")
				}
			}
		}
	}
}

func TestNext(t *testing.T) {
	h := changed(func(h *api.Home) {
		h.Nonces = nonces(3, 2, 2, 3, 3, 9, 4, 0, end, end, 4, 5, 0, 8, 1, 6)
	})
	for to, want := range map[uint32]uint32{3: 2, 2: 3, 4: 0, end: end, 0: 8, 1: 6, 5: 0, end - 1: 0} {
		if got := Next(h, to); got != want {
			t.Errorf("to %d: %d", to, got)
		}
	}
	if Next(api.Home{}, 0) != 0 || Next(New(nil, 1, root, 5), 2) != 0 {
		t.Error("of none")
	}
}

// TestDispatch: letter behind letter, each to one of some chains, held against what the chapter says that comes of it.
func TestDispatch(t *testing.T) {
	r := rand.New(rand.NewSource(162))
	want := New(nil, 7, root, 11)
	h := want
	l := digest.New()
	for i := range 40 {
		to := []uint32{2, 0, end, 5}[r.Intn(4)]
		body := strings.Repeat("x", r.Intn(301))
		x := api.Letter{From: 7, To: to, Sender: "ada", Receiver: "bob", Body: body}
		at := slices.IndexFunc(want.Nonces, func(n api.Nonce) bool { return n.To == to })
		if at < 0 {
			want.Nonces = append(want.Nonces, api.Nonce{To: to, Next: 1})
		} else {
			x.Nonce = want.Nonces[at].Next
			want.Nonces[at].Next++
		}
		want.Leaves = append(want.Leaves, leafOf(x))
		want.Tree = merkle.Keep(nil, want.Leaves...)
		want.Queue = append(want.Queue, rootOf(want.Leaves))
		got, y, e := Dispatch(l, h, to, "ada", "bob", body)
		expect(t, "letter "+strconv.Itoa(i), got, e, want, api.OK)
		if y != x {
			t.Fatalf("letter %d: %v", i, y)
		}
		if !Right(nil, got) || !l.Has(leafOf(x)) || !l.Has(want.Queue[i]) || !branchesNoted(l, got.Tree) {
			t.Errorf("letter %d: it isn't right, or a digest isn't noted", i)
		}
		h = got
	}
}

// branchesNoted: are the tree's branches that are made of others?
func branchesNoted(l *digest.Log, tree api.Tree) bool {
	for level := 1; level < api.Depth; level++ {
		if tree.Count>>level&1 == 1 && !l.Has(tree.Branches[level]) {
			return false
		}
	}
	return true
}

func TestDispatchOfWhatMayBe(t *testing.T) {
	greek := strings.Repeat("ω", api.MaxName)
	for _, c := range []struct{ sender, receiver, body string }{
		{"a", "b", ""}, {"a", "a", "\x00"}, {greek, greek, strings.Repeat("\xff", 300)}, {"a1", "ab2", "α\n"},
	} {
		h, x, e := Dispatch(nil, busy(), 2, c.sender, c.receiver, c.body)
		want := api.Letter{From: 1, Nonce: 3, To: 2, Sender: c.sender, Receiver: c.receiver, Body: c.body}
		if e != api.OK || x != want || h.Leaves[5] != leafOf(want) {
			t.Errorf("%q: %v, %v", c.sender, x, e)
		}
	}
}

// TestDispatchErrors: where several apply, the first one.
func TestDispatchErrors(t *testing.T) {
	long := strings.Repeat("x", 301)
	over := nonces(2, end, 1, end)
	with := func(h api.Home, change func(h *api.Home)) api.Home { change(&h); return h }
	crowded := with(waiting(api.MaxRoots), func(h *api.Home) { h.Nonces = over })
	lost := with(crowded, func(h *api.Home) { h.Failed = true })
	for _, c := range []struct {
		told         string
		h            api.Home
		to           uint32
		sender, body string
		want         api.Errno
	}{
		{"failed", failed(), 2, "ada", "", api.ErrFailed},
		{"failed, with a bond", changed(func(h *api.Home) { h.Failed = true }), 2, "ada", "", api.ErrFailed},
		{"failed, and all else", lost, 1, "", long, api.ErrFailed},
		{"to itself", busy(), 1, "ada", "", api.ErrDest},
		{"to itself, and all else", crowded, 1, "", long, api.ErrDest},
		{"no sender", busy(), 2, "", "", api.ErrForm},
		{"a sender of no name", busy(), 2, "Ada", "", api.ErrForm},
		{"a stray", busy(), 2, "a\xff", "", api.ErrForm},
		{"a long sender", busy(), 2, "abcdefghijklm", "", api.ErrForm},
		{"a long body", busy(), 2, "ada", long, api.ErrForm},
		{"a long body, and all else", crowded, 2, "ada", long, api.ErrForm},
		{"no name, and all leaves", full(0), 2, "", "", api.ErrForm},
		{"all leaves", full(0), 2, "ada", "", api.ErrMany},
		{"more leaves", beyond(), 2, "ada", "", api.ErrMany},
		{"all leaves, no tree", with(full(0), func(h *api.Home) { h.Tree = api.Tree{} }), 2, "ada", "", api.ErrMany},
		{"more leaves, no tree", with(beyond(), func(h *api.Home) { h.Tree = api.Tree{} }), 2, "ada", "", api.ErrMany},
		{"a full tree", changed(func(h *api.Home) { h.Tree.Count = api.MaxLeaves }), 2, "ada", "", api.ErrMany},
		{"a tree beyond", changed(func(h *api.Home) { h.Tree.Count = end }), 2, "ada", "", api.ErrMany},
		{"a full tree, and over", changed(func(h *api.Home) { h.Tree.Count, h.Nonces = api.MaxLeaves, over }), 2, "ada", "", api.ErrMany},
		{"a full queue", waiting(api.MaxRoots), 2, "ada", "", api.ErrMany},
		{"a queue beyond", waiting(api.MaxRoots + 1), 2, "ada", "", api.ErrMany},
		{"a full queue, and over", crowded, 2, "ada", "", api.ErrMany},
		{"over", changed(func(h *api.Home) { h.Nonces = over }), 2, "ada", "", api.ErrOver},
		{"the first one is over", changed(func(h *api.Home) { h.Nonces = nonces(2, end, 2, 0) }), 2, "ada", "", api.ErrOver},
	} {
		h, x, e := Dispatch(nil, c.h, c.to, c.sender, "bob", c.body)
		expect(t, c.told, h, e, c.h, c.want)
		if x != (api.Letter{}) {
			t.Errorf("%s: %v", c.told, x)
		}
	}
	for _, receiver := range []string{"", "Bob", "b b", "\xff", "abcdefghijklm"} {
		h, x, e := Dispatch(nil, busy(), 2, "ada", receiver, "")
		expect(t, "a receiver of no name", h, e, busy(), api.ErrForm)
		if x != (api.Letter{}) {
			t.Error(x)
		}
	}
}

// TestDispatchUpToTheEnds: the last letter, the last root, the last number that may be.
func TestDispatchUpToTheEnds(t *testing.T) {
	h, x, e := Dispatch(nil, full(1), 2, "ada", "bob", "")
	if e != api.OK || len(h.Leaves) != api.MaxLeaves || h.Tree.Count != api.MaxLeaves || !Right(nil, h) {
		t.Error("the last leaf", x, e)
	}
	if _, _, e = Dispatch(nil, h, 2, "ada", "bob", ""); e != api.ErrMany {
		t.Error("behind the last leaf", e)
	}
	h, _, e = Dispatch(nil, waiting(api.MaxRoots-1), 2, "ada", "bob", "")
	if e != api.OK || len(h.Queue) != api.MaxRoots || !Right(nil, h) {
		t.Error("the last root", e)
	}
	if _, _, e = Dispatch(nil, h, 2, "ada", "bob", ""); e != api.ErrMany {
		t.Error("behind the last root", e)
	}
	h = changed(func(h *api.Home) { h.Nonces = nonces(3, end, 2, end-1) })
	h, x, e = Dispatch(nil, h, 2, "ada", "bob", "")
	if e != api.OK || x.Nonce != end-1 || !slices.Equal(h.Nonces, nonces(3, end, 2, end)) {
		t.Error("the last number", x, h.Nonces, e)
	}
	if _, _, e = Dispatch(nil, h, 2, "ada", "bob", ""); e != api.ErrOver {
		t.Error("behind the last number", e)
	}
	if h, x, e = Dispatch(nil, h, 4, "ada", "bob", ""); e != api.OK || x.Nonce != 0 || len(h.Nonces) != 3 {
		t.Error("to another chain", x, e)
	}
}

// TestDispatchOfHomesThatAreNotRight: the Tree and the Leaves go on, each from what it is; of several nonces the first one counts.
func TestDispatchOfHomesThatAreNotRight(t *testing.T) {
	h := changed(func(h *api.Home) {
		h.Leaves, h.Queue = somes(2), []api.Digest{some(9)}
		h.Nonces = nonces(2, 0, 3, 4, 3, 8, 2, 7)
	})
	want := copied(h)
	x := api.Letter{From: 1, Nonce: 4, To: 3, Sender: "ada", Receiver: "bob"}
	want.Tree = merkle.Keep(nil, append(somes(5), leafOf(x))...)
	want.Leaves = append(want.Leaves, leafOf(x))
	want.Queue = append(want.Queue, rootOf(append(somes(5), leafOf(x))))
	want.Nonces[1].Next = 5
	got, y, e := Dispatch(nil, h, 3, "ada", "bob", "")
	expect(t, "a home that isn't right", got, e, want, api.OK)
	if y != x {
		t.Error(y)
	}
	if got, y, e = Dispatch(nil, h, 2, "ada", "bob", ""); e != api.OK || y.Nonce != 0 || !slices.Equal(got.Nonces, nonces(2, 1, 3, 4, 3, 8, 2, 7)) {
		t.Error("a number of 0", y, got.Nonces, e)
	}
}

func TestSuggest(t *testing.T) {
	h := New(nil, 1, root, 5)
	if old, new, ok := Suggest(h); ok || old != (api.Digest{}) || new != (api.Digest{}) {
		t.Error("of no letter", old, new)
	}
	h, x, _ := Dispatch(nil, h, 2, "ada", "bob", "hi")
	old, new, ok := Suggest(h)
	if !ok || old != rootOf(nil) || new != rootOf([]api.Digest{leafOf(x)}) {
		t.Error("the chapter's example", old, new, ok)
	}
	if old, new, ok = Suggest(busy()); !ok || old != rootOf(somes(2)) || new != rootOf(somes(5)) {
		t.Error("of three in the queue", ok)
	}
	for _, h := range []api.Home{failed(), changed(func(h *api.Home) { h.Failed = true }), changed(func(h *api.Home) { h.Queue = nil }), homeOf(somes(3), 3), {}} {
		if old, new, ok = Suggest(h); ok || old != (api.Digest{}) || new != (api.Digest{}) {
			t.Errorf("%v: %v, %v", h, old, new)
		}
	}
}

func TestSubmit(t *testing.T) {
	for at := range 3 {
		h := busy()
		l := digest.New()
		u := signed(h.Committed, h.Queue[at])
		want := busy()
		want.Committed, want.Queue = h.Queue[at], h.Queue[at+1:]
		got, e := Submit(l, h, u)
		expect(t, "root "+strconv.Itoa(at), got, e, want, api.OK)
		if !Right(nil, got) || !l.Has(update.Claim(nil, 1, u.Old, u.New)) {
			t.Errorf("root %d: it isn't right, or the claim isn't noted", at)
		}
		got, e = Submit(nil, got, u)
		expect(t, "once more", got, e, want, api.ErrOld)
	}
	a, b := some(21), some(22)
	h := changed(func(h *api.Home) { h.Queue = []api.Digest{b, a, {}, a, b} })
	want := changed(func(h *api.Home) { h.Queue, h.Committed = []api.Digest{{}, a, b}, a })
	got, e := Submit(nil, h, signed(h.Committed, a))
	expect(t, "the first one of two", got, e, want, api.OK)
	want = changed(func(h *api.Home) { h.Queue, h.Committed = []api.Digest{a, b}, api.Digest{} })
	got, e = Submit(nil, h, signed(h.Committed, api.Digest{}))
	expect(t, "the zero root", got, e, want, api.OK)
	h.Queue = append(h.Queue, h.Committed)
	want.Queue, want.Committed = nil, h.Committed
	got, e = Submit(nil, h, signed(h.Committed, h.Committed))
	expect(t, "the committed root, which is in the queue", got, e, want, api.OK)
}

// forged: updates that aren't right under the updater's root.
func forged(old, new api.Digest) []api.Update {
	u := signed(old, new)
	list := []api.Update{
		{Home: 1, Old: old, New: new},
		by(other, 0, 1, old, new),
		{Home: 1, Old: old, New: new, Sig: by(updater, 0, 2, old, new).Sig},
		{Home: 1, Old: old, New: new, Sig: signed(some(-6), new).Sig},
		{Home: 1, Old: old, New: new, Sig: signed(old, some(-5)).Sig},
	}
	for _, index := range []int{-1, 1, 15, 16, math.MinInt, math.MaxInt} {
		v := u
		v.Sig.Index = index
		list = append(list, v)
	}
	bare, short := u, u
	bare.Sig.Parts = nil
	short.Sig.Path = u.Sig.Path[:3]
	return append(list, bare, short)
}

// claims: what refuses an update at a home, whatever it is told for; the first one where several apply. Left out is what befalls one that is the updater's word of the Committed root.
func claims() map[*api.Home][]refusal {
	h, f := busy(), failed()
	kept := changed(func(h *api.Home) { h.Failed = true })
	in, out := h.Queue[1], some(-3)
	list := map[*api.Home][]refusal{
		&f: {
			{"failed", signed(f.Committed, in), api.ErrFailed},
			{"failed, of no root", signed(f.Committed, out), api.ErrFailed},
			{"failed, and all else", by(other, 0, 2, out, out), api.ErrFailed},
		},
		&kept: {{"failed, with a bond", signed(f.Committed, in), api.ErrFailed}},
		&h: {
			{"another home", by(updater, 0, 2, h.Committed, in), api.ErrDest},
			{"another home, of no root", by(updater, 0, 0, h.Committed, out), api.ErrDest},
			{"another home, and all else", by(other, 0, end, out, out), api.ErrDest},
			{"another old root", signed(h.Queue[0], in), api.ErrOld},
			{"the zero root", signed(api.Digest{}, in), api.ErrOld},
			{"the root of nothing", signed(rootOf(nil), h.Committed), api.ErrOld},
			{"another old root, and all else", by(other, 0, 1, out, out), api.ErrOld},
		},
	}
	for _, new := range []api.Digest{in, out, h.Committed} {
		for _, u := range forged(h.Committed, new) {
			list[&h] = append(list[&h], refusal{"forged", u, api.ErrSig})
		}
	}
	return list
}

type refusal struct {
	told string
	u    api.Update
	want api.Errno
}

func TestSubmitErrors(t *testing.T) {
	for h, list := range claims() {
		for _, c := range list {
			got, e := Submit(nil, *h, c.u)
			expect(t, c.told, got, e, *h, c.want)
		}
	}
	h := busy()
	for _, new := range []api.Digest{some(-3), {}, h.Committed, rootOf(nil), rootOf(somes(1)), rootOf(somes(6))} {
		got, e := Submit(nil, h, signed(h.Committed, new))
		expect(t, "no root", got, e, h, api.ErrRoot)
	}
	h.Queue = nil
	got, e := Submit(nil, h, signed(h.Committed, rootOf(somes(5))))
	expect(t, "no queue", got, e, h, api.ErrRoot)
}

// bonds: and their halves, rounded down.
var bonds = map[uint64]uint64{0: 0, 1: 0, 2: 1, 3: 1, 10: 5, 11: 5, 1 << 63: 1 << 62, most - 1: most / 2, most: most / 2}

// expectSlashed: the home has failed, the bond is shared, all else is as it was.
func expectSlashed(t *testing.T, told string, h, got api.Home, word, treasury uint64, e api.Errno) {
	t.Helper()
	want := copied(h)
	want.Failed, want.Bond = true, 0
	expect(t, told, got, e, want, api.OK)
	if word != bonds[h.Bond] || treasury != h.Bond-bonds[h.Bond] {
		t.Errorf("%s: of %d %d, %d", told, h.Bond, word, treasury)
	}
	if Right(nil, got) != Right(nil, h) {
		t.Errorf("%s: is it right?", told)
	}
}

func TestImproper(t *testing.T) {
	for bond := range bonds {
		h := changed(func(h *api.Home) { h.Bond = bond })
		// The committed root is none that came since it.
		for _, new := range []api.Digest{some(-3), {}, h.Committed, rootOf(nil), rootOf(somes(1)), rootOf(somes(6))} {
			l := digest.New()
			got, word, treasury, e := Improper(l, h, signed(h.Committed, new))
			expectSlashed(t, "improper", h, got, word, treasury, e)
			if !l.Has(update.Claim(nil, 1, h.Committed, new)) {
				t.Error("the claim isn't noted")
			}
		}
	}
	h := changed(func(h *api.Home) { h.Queue = nil })
	got, word, treasury, e := Improper(nil, h, signed(h.Committed, rootOf(somes(5))))
	expectSlashed(t, "no queue", h, got, word, treasury, e)
}

func expectNoShares(t *testing.T, told string, word, treasury uint64) {
	t.Helper()
	if word != 0 || treasury != 0 {
		t.Errorf("%s: %d, %d", told, word, treasury)
	}
}

func TestImproperErrors(t *testing.T) {
	for h, list := range claims() {
		for _, c := range list {
			got, word, treasury, e := Improper(nil, *h, c.u)
			expect(t, c.told, got, e, *h, c.want)
			expectNoShares(t, c.told, word, treasury)
		}
	}
	h := busy()
	for _, new := range h.Queue {
		got, word, treasury, e := Improper(nil, h, signed(h.Committed, new))
		expect(t, "proper", got, e, h, api.ErrFraud)
		expectNoShares(t, "proper", word, treasury)
	}
}

func TestDouble(t *testing.T) {
	for bond := range bonds {
		h := changed(func(h *api.Home) { h.Bond = bond })
		// Whatever the roots are to the home.
		for _, old := range []api.Digest{h.Committed, rootOf(nil), h.Queue[1], some(-3), {}} {
			for _, pair := range [][2]api.Digest{{h.Queue[0], h.Queue[1]}, {h.Queue[2], some(-3)}, {some(-3), some(-4)}, {h.Committed, {}}} {
				a, b := by(updater, 3, 1, old, pair[0]), by(updater, 9, 1, old, pair[1])
				l := digest.New()
				got, word, treasury, e := Double(l, h, a, b)
				expectSlashed(t, "double", h, got, word, treasury, e)
				got, word, treasury, e = Double(nil, h, b, a)
				expectSlashed(t, "the other way", h, got, word, treasury, e)
				if !l.Has(update.Claim(nil, 1, old, pair[0])) || !l.Has(update.Claim(nil, 1, old, pair[1])) {
					t.Error("a claim isn't noted")
				}
			}
		}
	}
}

func TestDoubleErrors(t *testing.T) {
	h := busy()
	old, one, two := h.Committed, h.Queue[0], some(-3)
	a, b := by(updater, 0, 1, old, one), by(updater, 1, 1, old, two)
	elsewhere, elsewhereToo := by(updater, 0, 2, old, one), by(updater, 1, 2, old, two)
	lost := by(other, 0, 2, old, one)
	for _, c := range []struct {
		told string
		h    api.Home
		a, b api.Update
		want api.Errno
	}{
		{"failed", failed(), a, b, api.ErrFailed},
		{"failed, with a bond", changed(func(h *api.Home) { h.Failed = true }), a, b, api.ErrFailed},
		{"failed, and all else", failed(), lost, lost, api.ErrFailed},
		{"another home", h, elsewhere, elsewhereToo, api.ErrDest},
		{"another home, and not double", h, lost, lost, api.ErrDest},
		{"another home of the first", h, elsewhere, b, api.ErrDest},
		{"another home of the second", h, a, elsewhereToo, api.ErrFraud},
		{"the same", h, a, a, api.ErrFraud},
		{"the same, by another key", h, a, by(updater, 1, 1, old, one), api.ErrFraud},
		{"other old roots", h, a, by(updater, 1, 1, one, two), api.ErrFraud},
		{"the first by somebody else", h, by(other, 0, 1, old, one), b, api.ErrFraud},
		{"the second by somebody else", h, a, by(other, 1, 1, old, two), api.ErrFraud},
		{"another updater's", changed(func(h *api.Home) { h.Updater = other.Root(nil) }), a, b, api.ErrFraud},
		{"nothing", h, api.Update{}, api.Update{}, api.ErrDest},
	} {
		got, word, treasury, e := Double(nil, c.h, c.a, c.b)
		expect(t, c.told, got, e, c.h, c.want)
		expectNoShares(t, c.told, word, treasury)
	}
	for _, u := range forged(old, one) {
		for _, pair := range [][2]api.Update{{u, b}, {b, u}, {u, u}} {
			got, word, treasury, e := Double(nil, h, pair[0], pair[1])
			expect(t, "forged", got, e, h, api.ErrFraud)
			expectNoShares(t, "forged", word, treasury)
		}
	}
}

func TestRight(t *testing.T) {
	for i, h := range rights() {
		l := digest.New()
		if !Right(nil, h) || !Right(l, h) {
			t.Errorf("right %d isn't", i)
		}
		if !l.Has(rootOf(h.Leaves)) || !branchesNoted(l, h.Tree) {
			t.Errorf("right %d: a digest isn't noted", i)
		}
	}
	for i, h := range wrongs() {
		if Right(nil, h) || Right(digest.New(), h) {
			t.Errorf("wrong %d is right", i)
		}
	}
}

// TestTwin: lists of its own, which is seen where either is written to.
func TestTwin(t *testing.T) {
	for i, h := range homes() {
		kept, whole := keep(h)
		twin := Twin(kept)
		if !same(twin, h) {
			t.Errorf("%d: unlike", i)
		}
		scribble(twin)
		if !whole() {
			t.Errorf("%d: one memory", i)
		}
		twin = Twin(kept)
		scribble(kept)
		if !same(twin, h) {
			t.Errorf("%d: one memory, the other way", i)
		}
	}
}

// beside: what a call answers beside the home and the error.
type beside struct {
	letter         api.Letter
	word, treasury uint64
}

// deed: something that is done to a home.
type deed struct {
	told string
	do   func(l *digest.Log, h api.Home) (api.Home, beside, api.Errno)
}

// updates: of all kinds, as they may be told to that home.
func updates(h api.Home) []api.Update {
	last := some(-3)
	if n := len(h.Queue); n > 0 {
		last = h.Queue[n-1]
	}
	list := []api.Update{
		{},
		{Home: h.Chain, Old: h.Committed, New: last},
		by(other, 0, h.Chain, h.Committed, last),
		by(updater, 0, unlike, h.Committed, last),
		by(updater, 0, h.Chain, some(-4), last),
		by(updater, 0, h.Chain, h.Committed, last),
		by(updater, 1, h.Chain, h.Committed, some(-5)),
		by(updater, 2, h.Chain, h.Committed, h.Committed),
	}
	if len(h.Queue) > 0 {
		list = append(list, by(updater, 15, h.Chain, h.Committed, h.Queue[0]))
	}
	return list
}

// deeds: all calls that answer a home.
func deeds(h api.Home) []deed {
	list := []deed{{"twin", func(_ *digest.Log, h api.Home) (api.Home, beside, api.Errno) { return Twin(h), beside{}, api.OK }}}
	for _, to := range []uint32{0, 1, 2, 3, end} {
		for _, text := range []string{"", "ada", "Ada", "\xff", strings.Repeat("a", 301)} {
			list = append(list, dispatching(to, text, "bob", "x"), dispatching(to, "ada", text, "x"), dispatching(to, "ada", "bob", text))
		}
	}
	all := updates(h)
	for i, u := range all {
		told := strconv.Itoa(i)
		list = append(list, deed{"submit " + told, func(l *digest.Log, h api.Home) (api.Home, beside, api.Errno) {
			g, e := Submit(l, h, u)
			return g, beside{}, e
		}}, deed{"improper " + told, func(l *digest.Log, h api.Home) (api.Home, beside, api.Errno) {
			g, word, treasury, e := Improper(l, h, u)
			return g, beside{word: word, treasury: treasury}, e
		}})
		for j, v := range all {
			list = append(list, deed{"double " + told + ", " + strconv.Itoa(j), func(l *digest.Log, h api.Home) (api.Home, beside, api.Errno) {
				g, word, treasury, e := Double(l, h, u, v)
				return g, beside{word: word, treasury: treasury}, e
			}})
		}
	}
	return list
}

func dispatching(to uint32, sender, receiver, body string) deed {
	return deed{"dispatch to " + strconv.Itoa(int(to)), func(l *digest.Log, h api.Home) (api.Home, beside, api.Errno) {
		g, x, e := Dispatch(l, h, to, sender, receiver, body)
		return g, beside{letter: x}, e
	}}
}

// TestAnyDeed: at all homes, letters and updates that are at hand: it ends, arguments stay, errors leave the home as it is and all else zero, no log makes a difference, answers have memory of their own, what was right is right.
func TestAnyDeed(t *testing.T) {
	log := digest.New()
	for i, h := range homes() {
		kept, whole := keep(h)
		right := Right(nil, h)
		for _, d := range deeds(h) {
			got, with, e := d.do(nil, kept)
			again, withToo, f := d.do(log, kept)
			if e != f || with != withToo || !same(got, again) {
				t.Fatalf("%d, %s: once %v, once %v", i, d.told, e, f)
			}
			if e != api.OK && (!same(got, h) || with != beside{}) {
				t.Fatalf("%d, %s: %v, but the home is another one, or something is told", i, d.told, e)
			}
			if e == api.OK && right && !Right(nil, got) {
				t.Fatalf("%d, %s: isn't right any more", i, d.told)
			}
			if h.Failed && d.told != "twin" && e != api.ErrFailed {
				t.Fatalf("%d, %s: has failed, but %v", i, d.told, e)
			}
			was := copied(again)
			scribble(got)
			if !whole() || !same(again, was) {
				t.Fatalf("%d, %s: shares memory, or the argument was changed", i, d.told)
			}
		}
		Next(kept, 2)
		Suggest(kept)
		Right(log, kept)
		if !whole() {
			t.Fatalf("%d: the argument was changed", i)
		}
	}
	if log.Clash() {
		t.Error("a clash")
	}
}

// TestUpdatesStay: what is told isn't changed, and not kept.
func TestUpdatesStay(t *testing.T) {
	h := busy()
	u, v := signed(h.Committed, h.Queue[0]), by(updater, 1, 1, h.Committed, some(-3))
	a, b := signed(h.Committed, h.Queue[0]), by(updater, 1, 1, h.Committed, some(-3))
	Submit(nil, h, u)
	Improper(nil, h, v)
	Double(nil, h, u, v)
	if !reflect.DeepEqual(u, a) || !reflect.DeepEqual(v, b) {
		t.Error("an update was changed")
	}
}

// TestSlashedOnce: what has failed stays so, and refuses all; the shares are the bond, once.
func TestSlashedOnce(t *testing.T) {
	for bond := range bonds {
		h := changed(func(h *api.Home) { h.Bond = bond })
		u, v := signed(h.Committed, h.Queue[0]), by(updater, 1, 1, h.Committed, some(-3))
		one, a, b, e := Improper(nil, h, v)
		expectSlashed(t, "improper", h, one, a, b, e)
		two, a, b, e := Double(nil, h, u, v)
		expectSlashed(t, "double", h, two, a, b, e)
		for _, lost := range []api.Home{one, two} {
			list := append(deeds(h), dispatching(2, "ada", "bob", ""))
			for _, d := range list[1:] {
				got, with, e := d.do(nil, lost)
				expect(t, d.told, got, e, lost, api.ErrFailed)
				if with != (beside{}) {
					t.Errorf("%s: %v", d.told, with)
				}
			}
			if old, new, ok := Suggest(lost); ok || old != (api.Digest{}) || new != (api.Digest{}) {
				t.Error("suggests something yet")
			}
		}
	}
}

// TestHonest: an updater that signs what Suggest tells alone, and each root once, is never slashed, whatever is said of what it signed, and when; one that signs anything else is.
func TestHonest(t *testing.T) {
	r := rand.New(rand.NewSource(166))
	for range 12 {
		h, s := New(nil, 1, root, 9), updater
		var all []api.Update
		taken := 0
		for range 150 {
			switch r.Intn(3) {
			case 0:
				h, _, _ = Dispatch(nil, h, uint32(2+r.Intn(2)), "ada", "bob", strconv.Itoa(r.Intn(9)))
			case 1:
				old, new, ok := Suggest(h)
				if ok && s.Next < api.Keys && !slices.ContainsFunc(all, func(u api.Update) bool { return u.Old == old }) {
					var u api.Update
					s, u, _ = update.Sign(nil, s, 1, old, new)
					all = append(all, u)
				}
			case 2:
				if len(all) > 0 {
					g, e := Submit(nil, h, all[r.Intn(len(all))])
					if e == api.OK {
						h = g
						taken++
					}
				}
			}
			notSlashed(t, h, all)
		}
		if taken < 5 || !Right(nil, h) || h.Bond != 9 || h.Failed {
			t.Errorf("%d were taken", taken)
		}
		if _, word, treasury, e := Improper(nil, h, by(updater, 0, 1, h.Committed, some(-3))); e != api.OK || word+treasury != 9 {
			t.Error("of another root", e)
		}
	}
}

func notSlashed(t *testing.T, h api.Home, all []api.Update) {
	t.Helper()
	for _, u := range all {
		if _, _, _, e := Improper(nil, h, u); e != api.ErrOld && e != api.ErrFraud {
			t.Fatal("improper:", e)
		}
		for _, v := range all {
			if _, _, _, e := Double(nil, h, u, v); e != api.ErrFraud {
				t.Fatal("double:", e)
			}
		}
	}
}
