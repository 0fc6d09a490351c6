package replica

import (
	"crypto/sha256"
	"encoding/binary"
	"math"
	"math/rand"
	"reflect"
	"slices"
	"strconv"
	"strings"
	"testing"

	"pontoon/api"
	"pontoon/digest"
	"pontoon/keys"
	"pontoon/update"
)

const (
	most   = math.MaxUint64
	end    = math.MaxUint32
	unlike = 99 // a chain of which there is nothing
)

// of: a digest of a domain and parts, by the library.
func of(domain byte, parts ...string) api.Digest {
	input := []byte{domain}
	for _, part := range parts {
		input = binary.BigEndian.AppendUint32(input, uint32(len(part)))
		input = append(input, part...)
	}
	return sha256.Sum256(input)
}

// leafOf: a letter's leaf, by the library.
func leafOf(x api.Letter) api.Digest {
	var b []byte
	for _, n := range []uint32{x.From, x.Nonce, x.To} {
		b = binary.BigEndian.AppendUint32(b, n)
	}
	for _, s := range []string{x.Sender, x.Receiver, x.Body} {
		b = append(binary.BigEndian.AppendUint32(b, uint32(len(s))), s...)
	}
	return of(5, string(b))
}

func two(left, right api.Digest) api.Digest { return of(6, string(left[:]), string(right[:])) }

// branchOf: the root of the tree of leaves, and the branch of a place, by the library.
func branchOf(leaves []api.Digest, at int) (api.Digest, []api.Digest) {
	level, nought := slices.Clone(leaves), api.Digest{}
	var branch []api.Digest
	for range 32 {
		for len(level)%2 == 1 || len(level) <= at|1 {
			level = append(level, nought)
		}
		branch = append(branch, level[at^1])
		up := make([]api.Digest, len(level)/2)
		for i := range up {
			up[i] = two(level[2*i], level[2*i+1])
		}
		level, nought, at = up, two(nought, nought), at/2
	}
	return level[0], branch
}

func rootOf(leaves []api.Digest) api.Digest {
	root, _ := branchOf(leaves, 0)
	return root
}

// some digest, another one for each number.
func some(n int) api.Digest {
	return sha256.Sum256([]byte(strconv.Itoa(n)))
}

// The updater, two watchers, and somebody else.
var (
	updater  = keys.New(nil, api.Digest{11})
	watchers = []keys.Signer{keys.New(nil, api.Digest{12}), keys.New(nil, api.Digest{13})}
	other    = keys.New(nil, api.Digest{14})
	root     = updater.Root(nil)
	watching = []api.Digest{watchers[0].Root(nil), watchers[1].Root(nil)}
)

// by: an update that a key of a signer has signed.
func by(s keys.Signer, index int, home uint32, old, new api.Digest) api.Update {
	sig, _ := s.Again(nil, index, update.Claim(nil, home, old, new))
	return api.Update{Home: home, Old: old, New: new, Sig: sig}
}

// signed: by the updater, of home 1.
func signed(old, new api.Digest) api.Update { return by(updater, 0, 1, old, new) }

// stop: a watcher's word, signed by whoever.
func stop(s keys.Signer, index int, home uint32, key api.Digest, watcher int) api.Stop {
	sig, _ := s.Again(nil, index, update.Halt(nil, home, key, watcher))
	return api.Stop{Home: home, Key: key, Watcher: watcher, Sig: sig}
}

// word: of a letter that came from chain 1 to chain 2.
func word(nonce int) api.Letter {
	return api.Letter{From: 1, Nonce: uint32(nonce), To: 2, Sender: "ada", Receiver: "bob", Body: "hi"}
}

// Six letters that set out, their leaves, and the roots of the first so many of them.
var (
	words  []api.Letter
	leaves []api.Digest
	roots  []api.Digest
)

func init() {
	for i := range 6 {
		words = append(words, word(i))
		leaves = append(leaves, leafOf(word(i)))
	}
	for n := range 7 {
		roots = append(roots, rootOf(leaves[:n]))
	}
}

// branch: of a letter's place in the tree of the first n letters.
func branch(n, at int) []api.Digest {
	_, list := branchOf(leaves[:n], at)
	return list
}

// Letter 0 is Done in a busy replica, letter 1 Shown; letter 2 was Shown under a root that doesn't count yet, of letter 3 there is nothing. The time is noon.
const noon = 10

func busy() api.Replica {
	return api.Replica{
		Chain: 1, Here: 2, Updater: root, Watchers: slices.Clone(watching), Window: 5, Committed: roots[5],
		Roots:  []api.Timed{{Root: roots[1], At: 5}, {Root: roots[3], At: 12}, {Root: roots[4], At: 10}, {Root: roots[5], At: 11}},
		States: []api.State{{Leaf: leaves[0], Status: api.Done, Root: roots[1]}, {Leaf: leaves[1], Status: api.Shown, Root: roots[4]}, {Leaf: leaves[2], Status: api.Shown, Root: roots[3]}},
	}
}

// with: a replica, but for what is changed in it.
func with(r api.Replica, changes ...func(r *api.Replica)) api.Replica {
	for _, change := range changes {
		change(&r)
	}
	return r
}

func changed(changes ...func(r *api.Replica)) api.Replica { return with(busy(), changes...) }

func fail(r *api.Replica) { r.Failed = true }
func cut(r *api.Replica)  { r.Cut = true }

// crowd: so many Roots in all.
func crowd(n int) func(r *api.Replica) {
	return func(r *api.Replica) {
		for i := len(r.Roots); i < n; i++ {
			r.Roots = append(r.Roots, api.Timed{Root: some(i), At: uint64(i)})
		}
	}
}

// stock: so many States in all.
func stock(n int) func(r *api.Replica) {
	return func(r *api.Replica) {
		for i := len(r.States); i < n; i++ {
			r.States = append(r.States, api.State{Leaf: some(i), Status: api.Shown + i%2, Root: roots[1]})
		}
	}
}

// rights: replicas that may be.
func rights() []api.Replica {
	return []api.Replica{
		{},
		New(1, 2, root, watching, 5, roots[0]),
		busy(),
		changed(fail),
		changed(cut),
		changed(fail, cut),
		changed(crowd(api.MaxRoots)),
		changed(crowd(api.MaxRoots - 1)),
		changed(stock(api.MaxLeaves)),
		changed(stock(api.MaxLeaves - 1)),
		changed(crowd(api.MaxRoots), stock(api.MaxLeaves)),
		changed(func(r *api.Replica) { r.States = nil }),
		changed(func(r *api.Replica) { r.Watchers = nil }),
		changed(func(r *api.Replica) { r.Watchers = []api.Digest{watching[0], watching[0], {}, watching[1]} }),
		changed(func(r *api.Replica) { r.Committed = api.Digest{} }),
		changed(func(r *api.Replica) { r.Here = r.Chain }),
		changed(func(r *api.Replica) { r.Window = most }),
		changed(func(r *api.Replica) { r.Window = 0 }),
		changed(func(r *api.Replica) { r.Chain, r.Here = end, 0 }),
		changed(func(r *api.Replica) { r.Roots[0].At, r.Roots[1].At = most, 0 }),
		// The zero digest is one like any other.
		changed(func(r *api.Replica) { r.Roots[2].Root, r.States[1].Root = api.Digest{}, api.Digest{} }),
		changed(func(r *api.Replica) { r.States[0].Leaf = api.Digest{} }),
		{Watchers: []api.Digest{}, Roots: []api.Timed{}, States: []api.State{}},
	}
}

// wrongs: replicas that may not be, each for one reason.
func wrongs() []api.Replica {
	return []api.Replica{
		changed(crowd(api.MaxRoots + 1)),
		changed(stock(api.MaxLeaves + 1)),
		changed(func(r *api.Replica) { r.Roots = append(r.Roots, r.Roots[0]) }),
		changed(func(r *api.Replica) { r.Roots = append(r.Roots, api.Timed{Root: roots[4], At: 3}) }),
		changed(func(r *api.Replica) { r.Roots[2].Root = r.Roots[3].Root; r.States[1].Root = r.Roots[3].Root }),
		changed(func(r *api.Replica) { r.States = append(r.States, r.States[1]) }),
		changed(func(r *api.Replica) {
			r.States = append(r.States, api.State{Leaf: leaves[1], Status: api.Done, Root: roots[1]})
		}),
		changed(func(r *api.Replica) { r.States[2].Leaf = leaves[0] }),
		changed(func(r *api.Replica) { r.States[1].Status = api.Unknown }),
		changed(func(r *api.Replica) { r.States[1].Status = 3 }),
		changed(func(r *api.Replica) { r.States[1].Status = -1 }),
		changed(func(r *api.Replica) { r.States[0].Status = math.MaxInt }),
		changed(func(r *api.Replica) { r.States[2].Status = math.MinInt }),
		changed(func(r *api.Replica) { r.States[0].Root = roots[2] }),
		changed(func(r *api.Replica) { r.States[2].Root = api.Digest{} }),
		changed(func(r *api.Replica) { r.States[1].Root[31] ^= 1 }),
		changed(func(r *api.Replica) { r.Roots = nil }),
		changed(func(r *api.Replica) { r.Roots = r.Roots[:2] }),
	}
}

func replicas() []api.Replica { return append(rights(), wrongs()...) }

// same: but for whether a list without elements is nil.
func same(g, r api.Replica) bool {
	return g.Chain == r.Chain && g.Here == r.Here && g.Updater == r.Updater && g.Window == r.Window && g.Committed == r.Committed && g.Failed == r.Failed && g.Cut == r.Cut &&
		slices.Equal(g.Watchers, r.Watchers) && slices.Equal(g.Roots, r.Roots) && slices.Equal(g.States, r.States)
}

// copied: the same, as a test needs it that doesn't trust Twin.
func copied(r api.Replica) api.Replica {
	r.Watchers = append([]api.Digest{}, r.Watchers...)
	r.Roots = append([]api.Timed{}, r.Roots...)
	r.States = append([]api.State{}, r.States...)
	return r
}

// keep: a replica with room behind its lists, and a look whether all of that is as it was.
func keep(r api.Replica) (api.Replica, func() bool) {
	watch := append(slices.Clone(r.Watchers), some(-7), some(-8))
	timed := append(slices.Clone(r.Roots), api.Timed{Root: some(-7), At: 1}, api.Timed{Root: some(-8), At: 2})
	states := append(slices.Clone(r.States), api.State{Leaf: some(-7), Status: 1}, api.State{Leaf: some(-8), Status: 2})
	watched, was, had := slices.Clone(watch), slices.Clone(timed), slices.Clone(states)
	r.Watchers, r.Roots, r.States = watch[:len(r.Watchers)], timed[:len(r.Roots)], states[:len(r.States)]
	return r, func() bool {
		return slices.Equal(watch, watched) && slices.Equal(timed, was) && slices.Equal(states, had)
	}
}

// scribble: writes all over a replica's lists, the room behind them, too.
func scribble(r api.Replica) {
	watch, timed, states := r.Watchers[:cap(r.Watchers)], r.Roots[:cap(r.Roots)], r.States[:cap(r.States)]
	for i := range watch {
		watch[i] = some(-99)
	}
	for i := range timed {
		timed[i] = api.Timed{Root: some(-99), At: 99}
	}
	for i := range states {
		states[i] = api.State{Leaf: some(-99), Status: 99, Root: some(-98)}
	}
}

func expect(t *testing.T, told string, got api.Replica, e api.Errno, want api.Replica, wanted api.Errno) {
	t.Helper()
	if e != wanted {
		t.Errorf("%s: %v, wanted %v", told, e, wanted)
	}
	if !same(got, want) {
		t.Errorf("%s: another replica than was wanted", told)
	}
}

func TestNew(t *testing.T) {
	for _, chain := range []uint32{0, 1, end} {
		for _, window := range []uint64{0, 5, most} {
			for _, watch := range [][]api.Digest{nil, {}, watching, {watching[1], watching[1], {}}} {
				list := append(slices.Clone(watch), some(-7))
				got := New(chain, chain+1, root, list[:len(watch)], window, some(3))
				want := api.Replica{Chain: chain, Here: chain + 1, Updater: root, Watchers: slices.Clone(watch), Window: window, Committed: some(3)}
				if !same(got, want) || !Right(got) {
					t.Errorf("%d, %d: %+v", chain, window, got)
				}
				scribble(got)
				if !slices.Equal(list, append(slices.Clone(watch), some(-7))) {
					t.Error("the watchers that were handed in were changed")
				}
				got = New(chain, chain+1, root, list[:len(watch)], window, some(3))
				clear(list)
				if !same(got, want) {
					t.Error("the watchers that were handed in are kept")
				}
			}
		}
	}
}

func TestStatus(t *testing.T) {
	r := changed(func(r *api.Replica) {
		r.States = append(r.States,
			api.State{Leaf: leaves[1], Status: api.Done, Root: roots[5]},
			api.State{Leaf: api.Digest{}, Status: api.Done, Root: roots[2]},
			api.State{Leaf: leaves[0], Status: api.Shown, Root: roots[1]},
			api.State{Leaf: leaves[5], Status: api.Shown})
	})
	for _, c := range []struct {
		leaf   api.Digest
		status int
		root   api.Digest
	}{
		{leaves[0], api.Done, roots[1]}, {leaves[1], api.Shown, roots[4]}, {leaves[2], api.Shown, roots[3]},
		{leaves[3], api.Unknown, api.Digest{}}, {leaves[5], api.Shown, api.Digest{}}, {api.Digest{}, api.Done, roots[2]}, {roots[1], api.Unknown, api.Digest{}},
	} {
		if status, under := Status(r, c.leaf); status != c.status || under != c.root {
			t.Errorf("%v: %d, %v", c.leaf[:3], status, under[:3])
		}
	}
	for _, r := range []api.Replica{{}, New(1, 2, root, watching, 5, roots[0])} {
		if status, under := Status(r, api.Digest{}); status != api.Unknown || under != (api.Digest{}) {
			t.Errorf("of none: %d, %v", status, under)
		}
	}
}

func TestCounts(t *testing.T) {
	r := api.Replica{Committed: roots[6], Roots: []api.Timed{{Root: roots[1], At: 5}, {Root: roots[2], At: 0}, {Root: roots[3], At: most}, {Root: roots[1], At: 3}, {Root: roots[2], At: 9}}}
	for _, c := range []struct {
		root api.Digest
		now  uint64
		want api.Errno
	}{
		{roots[1], 0, api.ErrWait}, {roots[1], 3, api.ErrWait}, {roots[1], 4, api.ErrWait}, {roots[1], 5, api.OK}, {roots[1], 6, api.OK}, {roots[1], most, api.OK},
		{roots[2], 0, api.OK}, {roots[2], 1, api.OK}, {roots[2], most, api.OK},
		{roots[3], 0, api.ErrWait}, {roots[3], 1 << 63, api.ErrWait}, {roots[3], most - 1, api.ErrWait}, {roots[3], most, api.OK},
		{roots[4], 0, api.ErrRoot}, {roots[4], most, api.ErrRoot}, {roots[6], most, api.ErrRoot}, {api.Digest{}, 5, api.ErrRoot},
	} {
		if e := Counts(r, c.root, c.now); e != c.want {
			t.Errorf("%v at %d: %v", c.root[:3], c.now, e)
		}
	}
	if e := Counts(api.Replica{}, api.Digest{}, most); e != api.ErrRoot {
		t.Error("of none", e)
	}
	// That it takes nothing any more isn't asked here.
	if e := Counts(changed(fail, cut), roots[1], noon); e != api.OK {
		t.Error("failed and cut", e)
	}
}

func TestAccept(t *testing.T) {
	r := busy()
	r = with(r, func(r *api.Replica) { r.Roots = slices.Grow(r.Roots, 8) })
	for _, now := range []uint64{0, 1, noon, 1 << 40, most - 5} {
		for _, new := range []api.Digest{roots[6], roots[2], {}, some(-3)} {
			l := digest.New()
			want := copied(r)
			want.Committed = new
			want.Roots = append(want.Roots, api.Timed{Root: new, At: now + 5})
			got, e := Accept(l, r, now, signed(roots[5], new))
			expect(t, "a new root", got, e, want, api.OK)
			if !Right(got) || !l.Has(update.Claim(nil, 1, roots[5], new)) {
				t.Error("it isn't right, or the claim isn't noted")
			}
			if Counts(got, new, now+4) != api.ErrWait || Counts(got, new, now+5) != api.OK {
				t.Error("it counts at another time")
			}
			got, e = Accept(nil, got, now, signed(roots[5], new))
			expect(t, "once more", got, e, want, api.ErrOld)
		}
		for at, timed := range r.Roots {
			want := copied(r)
			want.Committed = timed.Root
			want.Roots[at].At = now + 5
			got, e := Accept(nil, r, now, signed(roots[5], timed.Root))
			expect(t, "a root that is among them", got, e, want, api.OK)
		}
	}
}

// TestAcceptAtTheEnds: the last root, and those that are among them when there is no room; the last time.
func TestAcceptAtTheEnds(t *testing.T) {
	r := changed(crowd(api.MaxRoots - 1))
	got, e := Accept(nil, r, noon, signed(roots[5], roots[6]))
	if e != api.OK || len(got.Roots) != api.MaxRoots || got.Roots[api.MaxRoots-1] != (api.Timed{Root: roots[6], At: noon + 5}) || !Right(got) {
		t.Error("the last root", e)
	}
	full := got
	got, e = Accept(nil, full, noon, signed(roots[6], roots[2]))
	expect(t, "behind the last root", got, e, full, api.ErrMany)
	for _, r := range []api.Replica{full, with(full, crowd(api.MaxRoots+1))} {
		want := copied(r)
		want.Committed, want.Roots[1].At = roots[3], noon+8
		got, e = Accept(nil, r, noon+3, signed(roots[6], roots[3]))
		expect(t, "a root that is among all", got, e, want, api.OK)
	}
	for _, c := range []struct{ now, window uint64 }{{most, 0}, {0, most}, {most - 5, 5}, {1 << 63, 1<<63 - 1}, {0, 0}} {
		r := changed(func(r *api.Replica) { r.Window = c.window })
		got, e = Accept(nil, r, c.now, signed(roots[5], roots[6]))
		if e != api.OK || got.Roots[4] != (api.Timed{Root: roots[6], At: c.now + c.window}) {
			t.Errorf("%d and %d: %v", c.now, c.window, e)
		}
	}
	// Of one root twice the first one.
	twice := api.Timed{Root: roots[1], At: 3}
	r = changed(func(r *api.Replica) { r.Roots = append(r.Roots, twice) })
	got, e = Accept(nil, r, noon, signed(roots[5], roots[1]))
	if e != api.OK || len(got.Roots) != 5 || got.Roots[0].At != noon+5 || got.Roots[4] != twice {
		t.Error("one root twice", got.Roots, e)
	}
	got, e = Accept(nil, New(1, 2, root, nil, 5, roots[0]), noon, signed(roots[0], roots[0]))
	if e != api.OK || got.Committed != roots[0] || !slices.Equal(got.Roots, []api.Timed{{Root: roots[0], At: noon + 5}}) {
		t.Error("the committed root", e)
	}
}

// forged: updates that aren't right under the updater's root.
func forged(old, new api.Digest) []api.Update {
	u := signed(old, new)
	list := []api.Update{
		{Home: 1, Old: old, New: new},
		by(other, 0, 1, old, new),
		by(watchers[0], 0, 1, old, new),
		{Home: 1, Old: old, New: new, Sig: by(updater, 0, 2, old, new).Sig},
		{Home: 1, Old: old, New: new, Sig: signed(some(-6), new).Sig},
		{Home: 1, Old: old, New: new, Sig: signed(old, some(-5)).Sig},
	}
	for _, index := range []int{-1, 1, 15, 16, math.MinInt, math.MaxInt} {
		v := u
		v.Sig.Index = index
		list = append(list, v)
	}
	bare, short := u, u
	bare.Sig.Parts = nil
	short.Sig.Path = u.Sig.Path[:3]
	return append(list, bare, short)
}

// TestAcceptErrors: where several apply, the first one.
func TestAcceptErrors(t *testing.T) {
	r := busy()
	crowded := changed(crowd(api.MaxRoots))
	for _, c := range []struct {
		told string
		r    api.Replica
		now  uint64
		u    api.Update
		want api.Errno
	}{
		{"failed", changed(fail), noon, signed(roots[5], roots[6]), api.ErrFailed},
		{"failed, and cut", changed(fail, cut), noon, signed(roots[5], roots[6]), api.ErrFailed},
		{"failed, and all else", with(crowded, fail, cut), most, by(other, 0, 2, roots[4], roots[6]), api.ErrFailed},
		{"cut", changed(cut), noon, signed(roots[5], roots[6]), api.ErrCut},
		{"cut, and all else", with(crowded, cut), most, by(other, 0, 2, roots[4], roots[6]), api.ErrCut},
		{"another home", r, noon, by(updater, 0, 2, roots[5], roots[6]), api.ErrDest},
		{"home 0", r, noon, by(updater, 0, 0, roots[5], roots[6]), api.ErrDest},
		{"another home, and all else", crowded, most, by(other, 0, 2, roots[4], roots[6]), api.ErrDest},
		{"another old root", r, noon, signed(roots[4], roots[6]), api.ErrOld},
		{"the zero root", r, noon, signed(api.Digest{}, roots[6]), api.ErrOld},
		{"the root of nothing", r, noon, signed(roots[0], roots[5]), api.ErrOld},
		{"another old root, and all else", crowded, most, by(other, 0, 1, roots[4], roots[6]), api.ErrOld},
		{"by somebody else, and all else", crowded, most, by(other, 0, 1, roots[5], roots[6]), api.ErrSig},
		{"another updater's", changed(func(r *api.Replica) { r.Updater = watching[0] }), noon, signed(roots[5], roots[6]), api.ErrSig},
		{"all roots", crowded, noon, signed(roots[5], roots[6]), api.ErrMany},
		{"all roots, and over", crowded, most, signed(roots[5], roots[6]), api.ErrMany},
		{"more roots", changed(crowd(api.MaxRoots + 1)), noon, signed(roots[5], roots[6]), api.ErrMany},
		{"over", r, most, signed(roots[5], roots[6]), api.ErrOver},
		{"over by 1", r, most - 4, signed(roots[5], roots[6]), api.ErrOver},
		{"over, of one that is among them", crowded, most - 4, signed(roots[5], roots[1]), api.ErrOver},
		{"over, by the window", changed(func(r *api.Replica) { r.Window = most }), 1, signed(roots[5], roots[6]), api.ErrOver},
		{"over, by both", changed(func(r *api.Replica) { r.Window = most }), most, signed(roots[5], roots[6]), api.ErrOver},
		{"nothing", r, noon, api.Update{}, api.ErrDest},
	} {
		got, e := Accept(nil, c.r, c.now, c.u)
		expect(t, c.told, got, e, c.r, c.want)
	}
	for _, new := range []api.Digest{roots[6], roots[5], roots[1]} {
		for _, u := range forged(roots[5], new) {
			got, e := Accept(nil, r, noon, u)
			expect(t, "forged", got, e, r, api.ErrSig)
		}
	}
}

func TestDoubled(t *testing.T) {
	for _, r := range []api.Replica{busy(), changed(cut), changed(crowd(api.MaxRoots + 1)), New(1, 7, root, nil, 5, roots[0])} {
		want := copied(r)
		want.Failed = true
		// Whatever the roots are to the replica.
		for _, old := range []api.Digest{r.Committed, roots[1], some(-3), {}} {
			for _, pair := range [][2]api.Digest{{roots[5], roots[6]}, {some(-3), some(-4)}, {old, some(-5)}, {roots[0], some(-6)}} {
				a, b := by(updater, 3, 1, old, pair[0]), by(updater, 9, 1, old, pair[1])
				l := digest.New()
				got, e := Doubled(l, r, a, b)
				expect(t, "doubled", got, e, want, api.OK)
				got, e = Doubled(nil, r, b, a)
				expect(t, "the other way", got, e, want, api.OK)
				if !l.Has(update.Claim(nil, 1, old, pair[0])) || !l.Has(update.Claim(nil, 1, old, pair[1])) {
					t.Error("a claim isn't noted")
				}
			}
		}
	}
}

func TestDoubledErrors(t *testing.T) {
	r := busy()
	a, b := by(updater, 0, 1, roots[5], roots[6]), by(updater, 1, 1, roots[5], some(-3))
	elsewhere, elsewhereToo := by(updater, 0, 2, roots[5], roots[6]), by(updater, 1, 2, roots[5], some(-3))
	lost := by(other, 0, 2, roots[5], roots[6])
	for _, c := range []struct {
		told string
		r    api.Replica
		a, b api.Update
		want api.Errno
	}{
		{"failed", changed(fail), a, b, api.ErrFailed},
		{"failed, and all else", changed(fail, cut), lost, lost, api.ErrFailed},
		{"another home", r, elsewhere, elsewhereToo, api.ErrDest},
		{"another home, and not double", r, lost, lost, api.ErrDest},
		{"another home of the first", r, elsewhere, b, api.ErrDest},
		{"another home of the second", r, a, elsewhereToo, api.ErrFraud},
		{"where it is", r, by(updater, 0, r.Here, roots[5], roots[6]), by(updater, 1, r.Here, roots[5], some(-3)), api.ErrDest},
		{"the same", r, a, a, api.ErrFraud},
		{"the same, by another key", r, a, by(updater, 1, 1, roots[5], roots[6]), api.ErrFraud},
		{"other old roots", r, a, by(updater, 1, 1, roots[4], some(-3)), api.ErrFraud},
		{"the first by somebody else", r, by(other, 0, 1, roots[5], roots[6]), b, api.ErrFraud},
		{"the second by somebody else", r, a, by(other, 1, 1, roots[5], some(-3)), api.ErrFraud},
		{"another updater's", changed(func(r *api.Replica) { r.Updater = other.Root(nil) }), a, b, api.ErrFraud},
		{"cut, and not double", changed(cut), a, a, api.ErrFraud},
		{"nothing", r, api.Update{}, api.Update{}, api.ErrDest},
	} {
		got, e := Doubled(nil, c.r, c.a, c.b)
		expect(t, c.told, got, e, c.r, c.want)
	}
	for _, u := range forged(roots[5], roots[6]) {
		for _, pair := range [][2]api.Update{{u, b}, {b, u}, {u, u}} {
			got, e := Doubled(nil, r, pair[0], pair[1])
			expect(t, "forged", got, e, r, api.ErrFraud)
		}
	}
}

func TestHalt(t *testing.T) {
	for _, r := range []api.Replica{busy(), changed(fail), changed(crowd(api.MaxRoots + 1)), New(1, 7, root, watching, 5, roots[0])} {
		want := copied(r)
		want.Cut = true
		for watcher, s := range watchers {
			for _, index := range []int{0, 7, 15} {
				l := digest.New()
				got, e := Halt(l, r, stop(s, index, 1, root, watcher))
				expect(t, "watcher "+strconv.Itoa(watcher), got, e, want, api.OK)
				if !l.Has(update.Halt(nil, 1, root, watcher)) {
					t.Error("the halt isn't noted")
				}
			}
		}
	}
	r := changed(func(r *api.Replica) {
		r.Watchers = []api.Digest{other.Root(nil), watching[0], watching[0], watching[1]}
	})
	for watcher, s := range []keys.Signer{other, watchers[0], watchers[0], watchers[1]} {
		if got, e := Halt(nil, r, stop(s, 0, 1, root, watcher)); e != api.OK || !got.Cut {
			t.Errorf("watcher %d of four: %v", watcher, e)
		}
	}
}

// TestHaltErrors: where several apply, the first one.
func TestHaltErrors(t *testing.T) {
	r, w := busy(), watchers[0]
	unsigned := api.Stop{Home: 1, Key: root}
	wrongHome, wrongNumber := unsigned, unsigned
	wrongHome.Sig = stop(w, 0, 2, root, 0).Sig
	wrongNumber.Sig = stop(w, 0, 1, root, 1).Sig
	for _, c := range []struct {
		told string
		r    api.Replica
		s    api.Stop
		want api.Errno
	}{
		{"cut", changed(cut), stop(w, 0, 1, root, 0), api.ErrCut},
		{"cut, and failed", changed(cut, fail), stop(w, 0, 1, root, 0), api.ErrCut},
		{"cut, and all else", changed(cut), stop(other, 0, 2, some(1), 9), api.ErrCut},
		{"another home", r, stop(w, 0, 2, root, 0), api.ErrDest},
		{"another home, and all else", r, stop(other, 0, 0, some(1), -1), api.ErrDest},
		{"another key", r, stop(w, 0, 1, other.Root(nil), 0), api.ErrDest},
		{"the watcher's key", r, stop(w, 0, 1, watching[0], 0), api.ErrDest},
		{"another key, and all else", r, stop(other, 0, 1, api.Digest{}, 2), api.ErrDest},
		{"no such watcher", r, stop(w, 0, 1, root, 2), api.ErrNone},
		{"no such watcher below", r, stop(w, 0, 1, root, -1), api.ErrNone},
		{"the lowest number", r, stop(w, 0, 1, root, math.MinInt), api.ErrNone},
		{"the highest number", r, stop(w, 0, 1, root, math.MaxInt), api.ErrNone},
		{"a number of the same 32 bits", r, stop(w, 0, 1, root, 1<<32), api.ErrNone},
		{"no such watcher, and no signature", r, api.Stop{Home: 1, Key: root, Watcher: 2}, api.ErrNone},
		{"no watchers", changed(func(r *api.Replica) { r.Watchers = nil }), stop(w, 0, 1, root, 0), api.ErrNone},
		{"no signature", r, unsigned, api.ErrSig},
		{"another watcher's", r, stop(watchers[1], 0, 1, root, 0), api.ErrSig},
		{"the other way", r, stop(w, 0, 1, root, 1), api.ErrSig},
		{"the updater's", r, stop(updater, 0, 1, root, 0), api.ErrSig},
		{"somebody else's", r, stop(other, 0, 1, root, 0), api.ErrSig},
		{"of another home", r, wrongHome, api.ErrSig},
		{"of another number", r, wrongNumber, api.ErrSig},
		{"failed, and no signature", changed(fail), unsigned, api.ErrSig},
		{"nothing", r, api.Stop{}, api.ErrDest},
	} {
		got, e := Halt(nil, c.r, c.s)
		expect(t, c.told, got, e, c.r, c.want)
	}
}

// TestProve: whatever there is of the letter, but Done.
func TestProve(t *testing.T) {
	r := busy()
	for _, c := range []struct {
		told     string
		n, place int // so many letters in the tree, and which one
		now      uint64
		state    int // where it is told
	}{
		{"a new one", 4, 3, noon, 3},
		{"a new one under another root", 5, 3, 11, 3},
		{"a new one, of the end", 5, 4, most, 3},
		{"what was shown, once more", 4, 1, noon, 1},
		{"what was shown, under another root", 5, 1, 11, 1},
		{"what was shown under a root that waits", 4, 2, noon, 2},
		{"what was shown under a root that waited", 3, 2, 12, 2},
	} {
		want := copied(r)
		want.States = append(want.States, api.State{})[:max(len(r.States), c.state+1)]
		want.States[c.state] = api.State{Leaf: leaves[c.place], Status: api.Shown, Root: roots[c.n]}
		l := digest.New()
		got, e := Prove(l, r, c.now, leaves[c.place], uint32(c.place), branch(c.n, c.place))
		expect(t, c.told, got, e, want, api.OK)
		if !Right(got) || !l.Has(roots[c.n]) {
			t.Errorf("%s: it isn't right, or the root isn't noted", c.told)
		}
	}
}

// TestProveOfAnyLeaf: a leaf isn't asked what it is of, nor its place how many there are.
func TestProveOfAnyLeaf(t *testing.T) {
	for _, at := range []uint32{0, 1, 4095, 4096, 1 << 31, end} {
		for _, leaf := range []api.Digest{{}, some(-3), roots[1]} {
			top, side := leaf, make([]api.Digest, 32)
			for i := range side {
				side[i] = some(i)
				if at>>i&1 == 1 {
					top = two(side[i], top)
				} else {
					top = two(top, side[i])
				}
			}
			r := changed(func(r *api.Replica) { r.Roots = append(r.Roots, api.Timed{Root: top, At: noon}) })
			want := copied(r)
			want.States = append(want.States, api.State{Leaf: leaf, Status: api.Shown, Root: top})
			got, e := Prove(nil, r, noon, leaf, at, side)
			expect(t, "any leaf", got, e, want, api.OK)
			got, e = Prove(nil, r, noon, leaf, at^1<<7, side)
			expect(t, "another place", got, e, r, api.ErrRoot)
			side[31][31] ^= 1
			got, e = Prove(nil, r, noon, leaf, at, side)
			expect(t, "another branch", got, e, r, api.ErrRoot)
		}
	}
}

// TestProveAtTheEnds: the last state, and those that are there when there is no room.
func TestProveAtTheEnds(t *testing.T) {
	r := changed(stock(api.MaxLeaves - 1))
	last := api.State{Leaf: leaves[3], Status: api.Shown, Root: roots[4]}
	got, e := Prove(nil, r, noon, leaves[3], 3, branch(4, 3))
	if e != api.OK || len(got.States) != api.MaxLeaves || got.States[api.MaxLeaves-1] != last || !Right(got) {
		t.Error("the last state", e)
	}
	full := got
	got, e = Prove(nil, full, 11, leaves[4], 4, branch(5, 4))
	expect(t, "behind the last state", got, e, full, api.ErrMany)
	for _, r := range []api.Replica{full, with(full, stock(api.MaxLeaves+1))} {
		want := copied(r)
		want.States[api.MaxLeaves-1].Root = roots[5]
		got, e = Prove(nil, r, 11, leaves[3], 3, branch(5, 3))
		expect(t, "a letter that has a state", got, e, want, api.OK)
	}
}

// TestProveOfReplicasThatAreNotRight: the first state of a leaf counts, and the first time of a root; any status but Done gives way.
func TestProveOfReplicasThatAreNotRight(t *testing.T) {
	for _, status := range []int{api.Unknown, -1, 3, math.MaxInt, math.MinInt} {
		r := changed(func(r *api.Replica) {
			r.States[0].Status = status
			r.States = append(r.States, api.State{Leaf: leaves[0], Status: api.Done, Root: roots[1]})
		})
		want := copied(r)
		want.States[0].Status = api.Shown
		got, e := Prove(nil, r, noon, leaves[0], 0, branch(1, 0))
		expect(t, "status "+strconv.Itoa(status), got, e, want, api.OK)
	}
	r := changed(func(r *api.Replica) {
		r.States = append(r.States, api.State{Leaf: leaves[0], Status: api.Shown, Root: roots[1]})
		r.Roots = append(r.Roots, api.Timed{Root: roots[5], At: 0}, api.Timed{Root: roots[4], At: most})
	})
	got, e := Prove(nil, r, noon, leaves[0], 0, branch(1, 0))
	expect(t, "first Done, then Shown", got, e, r, api.ErrStatus)
	got, e = Prove(nil, r, noon, leaves[3], 3, branch(5, 3))
	expect(t, "first it waits", got, e, r, api.ErrWait)
	if _, e = Prove(nil, r, noon, leaves[3], 3, branch(4, 3)); e != api.OK {
		t.Error("first it counts", e)
	}
}

// TestProveErrors: where several apply, the first one.
func TestProveErrors(t *testing.T) {
	r := busy()
	full := changed(stock(api.MaxLeaves))
	good := branch(4, 3)
	long := append(slices.Clone(good), api.Digest{})
	for _, c := range []struct {
		told   string
		r      api.Replica
		now    uint64
		leaf   api.Digest
		index  uint32
		branch []api.Digest
		want   api.Errno
	}{
		{"failed", changed(fail), noon, leaves[3], 3, good, api.ErrFailed},
		{"failed, and cut", changed(fail, cut), noon, leaves[3], 3, good, api.ErrFailed},
		{"failed, and all else", with(full, fail, cut), 0, leaves[0], 9, nil, api.ErrFailed},
		{"cut", changed(cut), noon, leaves[3], 3, good, api.ErrCut},
		{"cut, and all else", with(full, cut), 0, leaves[0], 9, nil, api.ErrCut},
		{"no branch", r, noon, leaves[3], 3, nil, api.ErrProof},
		{"a short branch", r, noon, leaves[3], 3, good[:31], api.ErrProof},
		{"a long branch", r, noon, leaves[3], 3, long, api.ErrProof},
		{"no branch, of a root", r, noon, roots[4], 0, nil, api.ErrProof},
		{"a long branch, and all else", full, 0, leaves[0], 9, long, api.ErrProof},
		{"another leaf", r, noon, leaves[2], 3, good, api.ErrRoot},
		{"the zero leaf", r, noon, api.Digest{}, 1, branch(4, 1), api.ErrRoot},
		{"another place", r, noon, leaves[3], 2, good, api.ErrRoot},
		{"a far place", r, noon, leaves[3], 3 + 1<<31, good, api.ErrRoot},
		{"a root that never came", r, most, leaves[3], 3, branch(6, 3), api.ErrRoot},
		{"no roots", changed(func(r *api.Replica) { r.Roots = nil }), most, leaves[3], 3, good, api.ErrRoot},
		{"the committed root alone", New(1, 2, root, nil, 0, roots[4]), most, leaves[3], 3, good, api.ErrRoot},
		{"another root, and Done", full, 0, leaves[0], 9, good, api.ErrRoot},
		{"a root that waits", r, noon, leaves[3], 3, branch(5, 3), api.ErrWait},
		{"a nought, under the root of three", r, noon, api.Digest{}, 3, good, api.ErrWait},
		{"a root that waits yet", r, noon - 1, leaves[3], 3, good, api.ErrWait},
		{"a root that waits, and Done", r, noon, leaves[0], 0, branch(5, 0), api.ErrWait},
		{"a root that waits, and all states", full, noon, leaves[3], 3, branch(5, 3), api.ErrWait},
		{"Done", r, noon, leaves[0], 0, branch(1, 0), api.ErrStatus},
		{"Done, under another root", r, noon, leaves[0], 0, branch(4, 0), api.ErrStatus},
		{"Done, and all states", full, noon, leaves[0], 0, branch(4, 0), api.ErrStatus},
		{"all states", full, noon, leaves[3], 3, good, api.ErrMany},
		{"more states", changed(stock(api.MaxLeaves + 1)), noon, leaves[3], 3, good, api.ErrMany},
	} {
		got, e := Prove(nil, c.r, c.now, c.leaf, c.index, c.branch)
		expect(t, c.told, got, e, c.r, c.want)
	}
}

func TestTake(t *testing.T) {
	for _, c := range []struct {
		told   string
		r      api.Replica
		letter int
		now    uint64
	}{
		{"shown", busy(), 1, noon},
		{"shown, later", busy(), 1, most},
		{"shown under a root that waited", busy(), 2, 12},
		{"all states, all roots", changed(crowd(api.MaxRoots), stock(api.MaxLeaves)), 1, noon},
	} {
		want := copied(c.r)
		want.States[c.letter].Status = api.Done
		l := digest.New()
		got, e := Take(l, c.r, c.now, words[c.letter])
		expect(t, c.told, got, e, want, api.OK)
		if !Right(got) || !l.Has(leaves[c.letter]) {
			t.Errorf("%s: it isn't right, or the leaf isn't noted", c.told)
		}
		got, e = Take(nil, got, c.now, words[c.letter])
		expect(t, c.told+", again", got, e, want, api.ErrStatus)
	}
}

// TestTakeOfAnyLetter: whatever it is of, if its leaf was shown; of the edges of numbers, and of letters that may not be, too.
func TestTakeOfAnyLetter(t *testing.T) {
	for _, x := range []api.Letter{
		{}, {From: end, To: end, Nonce: end}, {From: 0, To: end, Sender: "Ada", Receiver: "\xff"}, {From: 5, To: 5, Body: strings.Repeat("x", 301)}, word(77),
	} {
		r := changed(func(r *api.Replica) {
			r.Chain, r.Here = x.From, x.To
			r.States = append(r.States, api.State{Leaf: leafOf(x), Status: api.Shown, Root: roots[1]})
		})
		want := copied(r)
		want.States[3].Status = api.Done
		got, e := Take(nil, r, noon, x)
		expect(t, "any letter", got, e, want, api.OK)
	}
}

// TestTakeErrors: where several apply, the first one.
func TestTakeErrors(t *testing.T) {
	// shown: letter 1, but for what is changed in it, is Shown under a root that counts.
	shown := func(change func(x *api.Letter)) (api.Replica, api.Letter) {
		x := words[1]
		change(&x)
		return changed(func(r *api.Replica) { r.States[1].Leaf = leafOf(x) }), x
	}
	here, fromHere := shown(func(x *api.Letter) { x.From = 2 })
	away, toChain := shown(func(x *api.Letter) { x.To = 1 })
	back, turned := shown(func(x *api.Letter) { x.From, x.To = 2, 1 })
	far, fromFar := shown(func(x *api.Letter) { x.From = 0 })
	off, toFar := shown(func(x *api.Letter) { x.To = end })
	unaddressed := words[3]
	unaddressed.To = 1
	otherNonce, otherBody := words[1], words[1]
	otherNonce.Nonce, otherBody.Body = 9, ""
	under := func(root api.Digest) api.Replica {
		return changed(func(r *api.Replica) { r.States[1].Root = root })
	}
	status := func(n int) api.Replica {
		return changed(func(r *api.Replica) {
			r.States[1].Status = n
			r.States = append(r.States, api.State{Leaf: leaves[1], Status: api.Shown, Root: roots[1]})
		})
	}
	for _, c := range []struct {
		told string
		r    api.Replica
		now  uint64
		x    api.Letter
		want api.Errno
	}{
		{"failed", changed(fail), noon, words[1], api.ErrFailed},
		{"failed, and cut", changed(fail, cut), noon, words[1], api.ErrFailed},
		{"failed, and all else", changed(fail, cut), 0, unaddressed, api.ErrFailed},
		{"cut", changed(cut), noon, words[1], api.ErrCut},
		{"cut, and all else", changed(cut), 0, unaddressed, api.ErrCut},
		{"from here", here, noon, fromHere, api.ErrDest},
		{"to the chain", away, noon, toChain, api.ErrDest},
		{"the way back", back, noon, turned, api.ErrDest},
		{"from elsewhere", far, noon, fromFar, api.ErrDest},
		{"to elsewhere", off, noon, toFar, api.ErrDest},
		{"to elsewhere, and all else", busy(), 0, unaddressed, api.ErrDest},
		{"not shown", busy(), noon, words[3], api.ErrStatus},
		{"another number", busy(), noon, otherNonce, api.ErrStatus},
		{"another body", busy(), noon, otherBody, api.ErrStatus},
		{"Done", busy(), noon, words[0], api.ErrStatus},
		{"Done, under a root that waits", busy(), 0, words[0], api.ErrStatus},
		{"Unknown", status(api.Unknown), noon, words[1], api.ErrStatus},
		{"Done, and Shown", status(api.Done), noon, words[1], api.ErrStatus},
		{"status 3", status(3), noon, words[1], api.ErrStatus},
		{"status -1", status(-1), noon, words[1], api.ErrStatus},
		{"of a new replica", New(1, 2, root, nil, 0, roots[4]), noon, words[1], api.ErrStatus},
		{"under no root", under(roots[2]), most, words[1], api.ErrRoot},
		{"under the zero root", under(api.Digest{}), most, words[1], api.ErrRoot},
		{"no roots", changed(func(r *api.Replica) { r.Roots = nil }), noon, words[1], api.ErrRoot},
		{"a root that waits", busy(), noon, words[2], api.ErrWait},
		{"a root that waits yet", busy(), 11, words[2], api.ErrWait},
		{"a root that counted", busy(), noon - 1, words[1], api.ErrWait},
	} {
		got, e := Take(nil, c.r, c.now, c.x)
		expect(t, c.told, got, e, c.r, c.want)
	}
}

func TestRight(t *testing.T) {
	for i, r := range rights() {
		if !Right(r) {
			t.Errorf("right %d isn't", i)
		}
	}
	for i, r := range wrongs() {
		if Right(r) {
			t.Errorf("wrong %d is right", i)
		}
	}
}

// TestTwin: lists of its own, which is seen where either is written to.
func TestTwin(t *testing.T) {
	for i, r := range replicas() {
		kept, whole := keep(r)
		twin := Twin(kept)
		if !same(twin, r) {
			t.Errorf("%d: unlike", i)
		}
		scribble(twin)
		if !whole() {
			t.Errorf("%d: one memory", i)
		}
		twin = Twin(kept)
		scribble(kept)
		if !same(twin, r) {
			t.Errorf("%d: one memory, the other way", i)
		}
	}
}

// deed: something that is done to a replica.
type deed struct {
	told string
	do   func(l *digest.Log, r api.Replica) (api.Replica, api.Errno)
}

// updates: of all kinds, as they may be told to that replica.
func updates(r api.Replica) []api.Update {
	return []api.Update{
		{},
		{Home: r.Chain, Old: r.Committed, New: roots[6]},
		by(other, 0, r.Chain, r.Committed, roots[6]),
		by(updater, 0, unlike, r.Committed, roots[6]),
		by(updater, 0, r.Chain, some(-4), roots[6]),
		by(updater, 0, r.Chain, r.Committed, roots[6]),
		by(updater, 1, r.Chain, r.Committed, some(-5)),
		by(updater, 2, r.Chain, r.Committed, r.Committed),
		by(updater, 15, r.Chain, r.Committed, roots[1]),
	}
}

var times = []uint64{0, 5, noon, 12, most - 4, most}

// deeds: all calls that answer a replica.
func deeds(r api.Replica) []deed {
	list := []deed{{"twin", func(_ *digest.Log, r api.Replica) (api.Replica, api.Errno) { return Twin(r), api.OK }}}
	for i, u := range updates(r) {
		list = append(list, accepting(strconv.Itoa(i), noon, u), accepting(strconv.Itoa(i), most, u))
		for j, v := range updates(r) {
			list = append(list, deed{"doubled " + strconv.Itoa(i) + ", " + strconv.Itoa(j), func(l *digest.Log, r api.Replica) (api.Replica, api.Errno) {
				return Doubled(l, r, u, v)
			}})
		}
	}
	for _, s := range []api.Stop{
		{}, {Home: r.Chain, Key: r.Updater}, stop(other, 0, r.Chain, r.Updater, 0), stop(watchers[0], 0, r.Chain, r.Updater, 0), stop(watchers[1], 3, r.Chain, r.Updater, 1),
		stop(watchers[0], 0, r.Chain, r.Updater, -1), stop(watchers[0], 0, r.Chain, r.Updater, math.MaxInt), stop(watchers[0], 0, unlike, r.Updater, 0), stop(watchers[0], 0, r.Chain, some(1), 0),
	} {
		list = append(list, deed{"halt " + strconv.Itoa(s.Watcher), func(l *digest.Log, r api.Replica) (api.Replica, api.Errno) { return Halt(l, r, s) }})
	}
	for _, now := range times {
		for n := 1; n <= 6; n++ {
			list = append(list, proving(now, leaves[n-1], uint32(n-1), branch(n, n-1)), proving(now, leaves[0], 0, branch(n, 0)))
		}
		list = append(list, proving(now, api.Digest{}, end, nil), proving(now, leaves[0], 0, make([]api.Digest, 33)))
		for _, x := range append([]api.Letter{{}, {From: r.Chain, To: r.Here}, {Sender: "\xff", Body: strings.Repeat("x", 301)}}, words...) {
			list = append(list, taking(now, x))
		}
	}
	return list
}

func accepting(told string, now uint64, u api.Update) deed {
	return deed{"accept " + told, func(l *digest.Log, r api.Replica) (api.Replica, api.Errno) { return Accept(l, r, now, u) }}
}

func proving(now uint64, leaf api.Digest, index uint32, branch []api.Digest) deed {
	return deed{"prove " + strconv.Itoa(int(index)), func(l *digest.Log, r api.Replica) (api.Replica, api.Errno) {
		return Prove(l, r, now, leaf, index, branch)
	}}
}

func taking(now uint64, x api.Letter) deed {
	return deed{"take " + strconv.Itoa(int(x.Nonce)), func(l *digest.Log, r api.Replica) (api.Replica, api.Errno) { return Take(l, r, now, x) }}
}

// TestAnyDeed: at all replicas, updates, stops and letters that are at hand: it ends, arguments stay, errors leave the replica as it is, no log makes a difference, answers have memory of their own, what was right is right, what was Done, Failed or Cut is.
func TestAnyDeed(t *testing.T) {
	log := digest.New()
	for i, r := range replicas() {
		kept, whole := keep(r)
		right := Right(kept)
		for _, d := range deeds(r) {
			got, e := d.do(nil, kept)
			again, f := d.do(log, kept)
			if e != f || !same(got, again) {
				t.Fatalf("%d, %s: once %v, once %v", i, d.told, e, f)
			}
			if e != api.OK && !same(got, r) {
				t.Fatalf("%d, %s: %v, but the replica is another one", i, d.told, e)
			}
			if right && !Right(got) {
				t.Fatalf("%d, %s: isn't right any more", i, d.told)
			}
			if r.Failed && !got.Failed || r.Cut && !got.Cut || !stays(r, got) {
				t.Fatalf("%d, %s: isn't any more what it was for ever", i, d.told)
			}
			was := copied(again)
			scribble(got)
			if !whole() || !same(again, was) {
				t.Fatalf("%d, %s: shares memory, or the argument was changed", i, d.told)
			}
		}
		for _, leaf := range append(leaves, api.Digest{}) {
			Status(kept, leaf)
			Counts(kept, leaf, most)
		}
		if !whole() {
			t.Fatalf("%d: the argument was changed", i)
		}
	}
	if log.Clash() {
		t.Error("a clash")
	}
}

// stays: is each state that was Done as it was?
func stays(r, got api.Replica) bool {
	for i, s := range r.States {
		if s.Status == api.Done && got.States[i] != s {
			return false
		}
	}
	return true
}

// TestWhatIsToldStays: an update, a stop, a branch that is told isn't changed, and not kept.
func TestWhatIsToldStays(t *testing.T) {
	r := busy()
	u, v, s := signed(roots[5], roots[6]), by(updater, 1, 1, roots[5], some(-3)), stop(watchers[0], 0, 1, root, 0)
	room := append(branch(4, 3), some(-7))
	side := room[:32]
	Accept(nil, r, noon, u)
	Doubled(nil, r, u, v)
	Halt(nil, r, s)
	Prove(nil, r, noon, leaves[3], 3, side)
	if !reflect.DeepEqual(u, signed(roots[5], roots[6])) || !reflect.DeepEqual(v, by(updater, 1, 1, roots[5], some(-3))) {
		t.Error("an update was changed")
	}
	if !reflect.DeepEqual(s, stop(watchers[0], 0, 1, root, 0)) {
		t.Error("a stop was changed")
	}
	if !slices.Equal(room, append(branch(4, 3), some(-7))) {
		t.Error("a branch was changed")
	}
}

// TestExample: the chapter's.
func TestExample(t *testing.T) {
	if _, e := Take(nil, New(1, 2, root, watching, 5, roots[0]), most, words[0]); e != api.ErrStatus {
		t.Error("a letter that wasn't shown", e)
	}
}

// walk: a replica among what is done at it, and what the chapter says must come of that.
type walk struct {
	t        *testing.T
	r        api.Replica
	now      uint64
	accepted map[api.Digest][]uint64 // when a root was
	shown    map[int]api.Digest      // under which root a letter was, the last time
	done     map[int]struct{}
}

// accept: a root of so many letters, or one that there never was.
func (w *walk) accept(n int) {
	new := some(-3)
	if n < len(roots) {
		new = roots[n]
	}
	g, e := Accept(nil, w.r, w.now, signed(w.r.Committed, new))
	w.expect("accept", e, api.OK)
	w.r = g
	w.accepted[new] = append(w.accepted[new], w.now)
}

// counts: whether a root that was accepted last so long ago does.
func (w *walk) counts(root api.Digest) api.Errno {
	when := w.accepted[root]
	switch {
	case len(when) == 0:
		return api.ErrRoot
	case when[len(when)-1]+w.r.Window > w.now:
		return api.ErrWait
	}
	return api.OK
}

func (w *walk) prove(n, at int) {
	want := w.counts(roots[n])
	if _, ok := w.done[at]; ok && want == api.OK {
		want = api.ErrStatus
	}
	g, e := Prove(nil, w.r, w.now, leaves[at], uint32(at), branch(n, at))
	w.expect("prove", e, want)
	w.r = g
	if e == api.OK {
		w.shown[at] = roots[n]
	}
}

func (w *walk) take(at int) {
	under, ok := w.shown[at]
	want := w.counts(under)
	if _, gone := w.done[at]; gone || !ok {
		want = api.ErrStatus
	}
	g, e := Take(nil, w.r, w.now, words[at])
	w.expect("take", e, want)
	w.r = g
	if e != api.OK {
		return
	}
	w.done[at] = struct{}{}
	// What the promise says, apart from when a root was accepted last.
	if w.accepted[under][0]+w.r.Window > w.now {
		w.t.Fatal("was taken under a root that wasn't accepted a Window ago")
	}
}

func (w *walk) expect(told string, e, want api.Errno) {
	w.t.Helper()
	if e != want {
		w.t.Fatalf("%s: %v, wanted %v", told, e, want)
	}
}

// look: is each letter told as it is?
func (w *walk) look() {
	for at, leaf := range leaves {
		status, under := Status(w.r, leaf)
		want := api.Unknown
		if _, ok := w.shown[at]; ok {
			want = api.Shown
		}
		if _, ok := w.done[at]; ok {
			want = api.Done
		}
		if status != want || under != w.shown[at] {
			w.t.Fatalf("letter %d: %d, wanted %d", at, status, want)
		}
	}
	if !Right(w.r) {
		w.t.Fatal("it isn't right")
	}
}

// TestOnceAndBehindAWindow: whatever is done, and when: a letter is taken once, and only as it was shown under a root that had been accepted a Window ago; as soon as it is cut or has failed, nothing goes.
func TestOnceAndBehindAWindow(t *testing.T) {
	random := rand.New(rand.NewSource(177))
	taken := 0
	for round := range 30 {
		w := &walk{t, New(1, 2, root, watching, uint64(round%7), roots[0]), uint64(random.Intn(5)), map[api.Digest][]uint64{}, map[int]api.Digest{}, map[int]struct{}{}}
		for range 120 {
			n := 1 + random.Intn(6)
			switch random.Intn(8) {
			case 0:
				w.accept(n + random.Intn(2))
			case 1, 2:
				w.now += uint64(random.Intn(3))
			case 3, 4, 5:
				w.prove(n, random.Intn(n))
			default:
				w.take(n - 1)
			}
			w.look()
		}
		taken += len(w.done)
		w.shut(round)
	}
	if taken < 60 {
		t.Errorf("%d were taken in all", taken)
	}
}

// shut: a watcher's word, or two of the updater's; behind them nothing goes.
func (w *walk) shut(round int) {
	var e, want api.Errno
	if round%2 == 0 {
		w.r, e = Halt(nil, w.r, stop(watchers[1], 0, 1, root, 1))
		want = api.ErrCut
	} else {
		w.r, e = Doubled(nil, w.r, signed(roots[2], roots[3]), signed(roots[2], some(-9)))
		want = api.ErrFailed
	}
	w.expect("shut", e, api.OK)
	for at, leaf := range leaves {
		got, e := Take(nil, w.r, most, words[at])
		expect(w.t, "take", got, e, w.r, want)
		got, e = Prove(nil, w.r, most, leaf, uint32(at), branch(6, at))
		expect(w.t, "prove", got, e, w.r, want)
		got, e = Accept(nil, w.r, w.now, signed(w.r.Committed, roots[at]))
		expect(w.t, "accept", got, e, w.r, want)
	}
}
