package update

import (
	"crypto/sha256"
	"encoding/binary"
	"encoding/hex"
	"math"
	"reflect"
	"slices"
	"strings"
	"testing"

	"pontoon/api"
	"pontoon/digest"
	"pontoon/keys"
	"pontoon/sha"
)

// word, list, sigBytes: bytes by the library.
func word(n uint32) string { return string(binary.BigEndian.AppendUint32(nil, n)) }

func list(l []api.Digest) string {
	s := word(uint32(len(l)))
	for _, d := range l {
		s += string(d[:])
	}
	return s
}

func sigBytes(s api.Sig) string {
	return word(uint32(s.Index)) + list(s.Parts) + list(s.Others) + list(s.Path)
}

func updateBytes(u api.Update) string {
	return word(u.Home) + string(u.Old[:]) + string(u.New[:]) + sigBytes(u.Sig)
}

func stopBytes(s api.Stop) string {
	return word(s.Home) + string(s.Key[:]) + word(uint32(s.Watcher)) + sigBytes(s.Sig)
}

// of: a digest of a domain and parts, by the library.
func of(domain string, parts ...string) api.Digest {
	for _, p := range parts {
		domain += word(uint32(len(p))) + p
	}
	return sha256.Sum256([]byte(domain))
}

func claimOf(home uint32, old, new api.Digest) api.Digest {
	return of("\x07", word(home), string(old[:]), string(new[:]))
}

func haltOf(home uint32, key api.Digest, watcher int) api.Digest {
	return of("\x09", word(home), string(key[:]), word(uint32(watcher)))
}

func some(n int) api.Digest {
	return sha256.Sum256(binary.BigEndian.AppendUint64(nil, uint64(n)))
}

func somes(n, from int) []api.Digest {
	l := make([]api.Digest, n)
	for i := range l {
		l[i] = some(from + i)
	}
	return l
}

func logs() []*digest.Log { return []*digest.Log{nil, digest.New()} }

func cloned(s api.Sig) api.Sig {
	return api.Sig{Index: s.Index, Parts: slices.Clone(s.Parts), Others: slices.Clone(s.Others), Path: slices.Clone(s.Path)}
}

func sameSig(a, b api.Sig) bool {
	return a.Index == b.Index && slices.Equal(a.Parts, b.Parts) && slices.Equal(a.Others, b.Others) && slices.Equal(a.Path, b.Path)
}

func sameUpdate(a, b api.Update) bool {
	return a.Home == b.Home && a.Old == b.Old && a.New == b.New && sameSig(a.Sig, b.Sig)
}

func sameStop(a, b api.Stop) bool {
	return a.Home == b.Home && a.Key == b.Key && a.Watcher == b.Watcher && sameSig(a.Sig, b.Sig)
}

func sameSigner(a, b keys.Signer) bool {
	return a.Seed == b.Seed && a.Next == b.Next && slices.Equal(a.Leaves, b.Leaves)
}

// homes, watchers: numbers at all ends.
var homes = []uint32{0, 1, 2, 255, 256, 1 << 31, math.MaxUint32}

var watchers = []int{0, 1, 2, 3, 255, 1 << 16, math.MaxInt32, math.MaxInt32 + 1, math.MaxUint32, math.MaxUint32 + 1, 1<<32 + 1, math.MaxInt, -1, -2, math.MinInt32, math.MinInt}

// TestKnown: made by another program.
func TestKnown(t *testing.T) {
	want := func(what, got, wanted string) {
		t.Helper()
		if got != wanted {
			t.Errorf("%s: %s", what, got)
		}
	}
	hash := func(s string) string {
		sum := sha256.Sum256([]byte(s))
		return hex.EncodeToString(sum[:])
	}
	one, two := api.Digest{1}, api.Digest{2}
	want("claim", sha.Text(Claim(nil, 1, one, two)), "75efc77d0c28c0884cde44dd97984ae6774e3fc8bf60107cee937a0fa1e04c6c")
	want("halt", sha.Text(Halt(nil, 1, one, 2)), "29ab1c67a501ba752623bf07c4748e54412fd817d41f3ffee73d0ee340ba5958")
	want("halt of -1", sha.Text(Halt(nil, 1, one, -1)), "cbf161893d192c2a9fd1c28b78f2a10b4f18a170171008792b164815d331e0d2")
	s := keys.New(nil, one)
	_, u, _ := Sign(nil, s, 1, one, two)
	want("update", hash(Bytes(u)), "9fd0a737fc42e11418358f28e5b8d1d92605f614749aa25a8e6be264a80f845e")
	s.Next = 3
	_, stop, _ := Stop(nil, s, 1, one, 2)
	want("stop", hash(StopBytes(stop)), "fa2e46720c2d0ce044d11fde1a70962f1616c141533aa8f4203eaa3ff076370c")
}

func TestClaim(t *testing.T) {
	for _, home := range homes {
		for n := range 5 {
			old, new := some(n), some(n*n)
			for _, l := range logs() {
				if got := Claim(l, home, old, new); got != claimOf(home, old, new) {
					t.Errorf("%d, %d: %x", home, n, got)
				}
				if l != nil && (l.Count() != 1 || !l.Has(claimOf(home, old, new))) {
					t.Errorf("%d, %d: %d noted", home, n, l.Count())
				}
			}
		}
	}
	if Claim(nil, 1, some(1), some(2)) == Claim(nil, 1, some(2), some(1)) {
		t.Error("which root is the old one isn't told")
	}
}

func TestHalt(t *testing.T) {
	for _, home := range homes {
		for _, watcher := range watchers {
			key := some(watcher)
			for _, l := range logs() {
				if got := Halt(l, home, key, watcher); got != haltOf(home, key, watcher) {
					t.Errorf("%d, %d: %x", home, watcher, got)
				}
				if l != nil && (l.Count() != 1 || !l.Has(haltOf(home, key, watcher))) {
					t.Errorf("%d, %d: %d noted", home, watcher, l.Count())
				}
			}
		}
	}
	if Halt(nil, 1, some(1), 1<<32+1) != Halt(nil, 1, some(1), 1) || Halt(nil, 1, some(1), 1) == Halt(nil, 1, some(1), 1<<31+1) {
		t.Error("a watcher's lowest 32 bits")
	}
}

// TestClaimsAreNoHalts: as inputs, all of them are unlike.
func TestClaimsAreNoHalts(t *testing.T) {
	l := digest.New()
	made := 0
	for _, home := range homes {
		for n := range 3 {
			for m := range 3 {
				Claim(l, home, some(n), some(m))
				Halt(l, home, some(n), m)
				made += 2
			}
		}
	}
	if l.Count() != made || l.Clash() {
		t.Errorf("%d of %d", l.Count(), made)
	}
}

func TestSign(t *testing.T) {
	for _, l := range logs() {
		s := keys.New(nil, some(1))
		root := s.Root(nil)
		for i := range 16 {
			home, old, new := homes[i%len(homes)], some(i), some(i+1)
			wantSigner, wantSig, _ := s.Sign(nil, claimOf(home, old, new))
			after, u, e := Sign(l, s, home, old, new)
			if e != api.OK || !sameSigner(after, wantSigner) || after.Next != i+1 {
				t.Fatalf("%d: %v, next %d", i, e, after.Next)
			}
			if !sameUpdate(u, api.Update{Home: home, Old: old, New: new, Sig: wantSig}) || u.Sig.Index != i {
				t.Fatalf("%d: %+v", i, u)
			}
			if !Right(l, root, u) || !Right(nil, root, u) {
				t.Errorf("%d isn't right", i)
			}
			if l != nil && !l.Has(claimOf(home, old, new)) {
				t.Errorf("%d isn't noted", i)
			}
			s = after
		}
		if after, u, e := Sign(l, s, 1, some(1), some(2)); e != api.ErrSpent || !sameSigner(after, s) || !sameUpdate(u, api.Update{}) {
			t.Errorf("the 17th: %v, %+v", e, u)
		}
	}
}

func TestStop(t *testing.T) {
	for _, l := range logs() {
		s := keys.New(nil, some(2))
		root := s.Root(nil)
		for i, watcher := range watchers {
			home, key := homes[i%len(homes)], some(i)
			wantSigner, wantSig, _ := s.Sign(nil, haltOf(home, key, watcher))
			after, stop, e := Stop(l, s, home, key, watcher)
			if e != api.OK || !sameSigner(after, wantSigner) || after.Next != i+1 {
				t.Fatalf("%d: %v, next %d", i, e, after.Next)
			}
			if !sameStop(stop, api.Stop{Home: home, Key: key, Watcher: watcher, Sig: wantSig}) || stop.Sig.Index != i {
				t.Fatalf("%d: %+v", i, stop)
			}
			if !Halts(l, root, stop) || !Halts(nil, root, stop) {
				t.Errorf("%d isn't right", i)
			}
			if l != nil && !l.Has(haltOf(home, key, watcher)) {
				t.Errorf("%d isn't noted", i)
			}
			s = after
		}
		if s.Next != 16 {
			t.Fatalf("next %d", s.Next)
		}
		if after, stop, e := Stop(l, s, 1, some(1), 2); e != api.ErrSpent || !sameSigner(after, s) || !sameStop(stop, api.Stop{}) {
			t.Errorf("the 17th: %v, %+v", e, stop)
		}
	}
}

// TestSignersThatCantSign: the signer is answered as it is, beside nothing.
func TestSignersThatCantSign(t *testing.T) {
	whole := keys.New(nil, some(3))
	cases := []struct {
		leaves []api.Digest
		next   int
		wanted api.Errno
	}{
		{whole.Leaves, 16, api.ErrSpent}, {whole.Leaves, 17, api.ErrSpent}, {whole.Leaves, -1, api.ErrSpent},
		{whole.Leaves, math.MaxInt, api.ErrSpent}, {whole.Leaves, math.MinInt, api.ErrSpent}, {whole.Leaves, 1 << 32, api.ErrSpent},
		{nil, 0, api.ErrArg}, {whole.Leaves[:15], 0, api.ErrArg}, {somes(17, 1), 15, api.ErrArg}, {somes(1, 1), 7, api.ErrArg},
		{nil, 16, api.ErrSpent}, {somes(17, 1), -1, api.ErrSpent},
	}
	for i, c := range cases {
		s := keys.Signer{Seed: some(i), Next: c.next, Leaves: c.leaves}
		for _, l := range logs() {
			if after, u, e := Sign(l, s, 1, some(1), some(2)); e != c.wanted || !sameSigner(after, s) || !sameUpdate(u, api.Update{}) {
				t.Errorf("update %d: %v, wanted %v; %+v", i, e, c.wanted, u)
			}
			if after, stop, e := Stop(l, s, 1, some(1), 2); e != c.wanted || !sameSigner(after, s) || !sameStop(stop, api.Stop{}) {
				t.Errorf("stop %d: %v, wanted %v; %+v", i, e, c.wanted, stop)
			}
		}
	}
}

// wrongSigs: near a signature, and not it.
func wrongSigs(s api.Sig) []api.Sig {
	var wrong []api.Sig
	change := func(do func(*api.Sig)) {
		c := cloned(s)
		do(&c)
		wrong = append(wrong, c)
	}
	change(func(c *api.Sig) { *c = api.Sig{} })
	change(func(c *api.Sig) { c.Index ^= 1 })
	change(func(c *api.Sig) { c.Index += 16 })
	change(func(c *api.Sig) { c.Index -= 16 })
	change(func(c *api.Sig) { c.Index += 1 << 32 })
	change(func(c *api.Sig) { c.Parts[0][0] ^= 1 })
	change(func(c *api.Sig) { c.Parts[31][31] ^= 1 })
	change(func(c *api.Sig) { c.Others[0][0] ^= 1 })
	change(func(c *api.Sig) { c.Others[31][31] ^= 1 })
	change(func(c *api.Sig) { c.Path[0][0] ^= 1 })
	change(func(c *api.Sig) { c.Path[3][31] ^= 1 })
	change(func(c *api.Sig) { c.Parts = c.Parts[:31] })
	change(func(c *api.Sig) { c.Parts = append(c.Parts, some(1)) })
	change(func(c *api.Sig) { c.Others = c.Others[:31] })
	change(func(c *api.Sig) { c.Others = nil })
	change(func(c *api.Sig) { c.Path = c.Path[:3] })
	change(func(c *api.Sig) { c.Path = append(c.Path, some(1)) })
	change(func(c *api.Sig) { c.Parts, c.Others = c.Others, c.Parts })
	return wrong
}

func TestRightRefuses(t *testing.T) {
	s := keys.New(nil, some(4))
	root := s.Root(nil)
	_, u, _ := Sign(nil, s, 7, some(1), some(2))
	wrong := []api.Update{
		{Home: 8, Old: u.Old, New: u.New, Sig: u.Sig}, {Home: 7 | 1<<31, Old: u.Old, New: u.New, Sig: u.Sig},
		{Home: 7, Old: some(3), New: u.New, Sig: u.Sig}, {Home: 7, Old: u.Old, New: some(3), Sig: u.Sig},
		{Home: 7, Old: u.New, New: u.Old, Sig: u.Sig}, {Home: 7, Old: u.Old, New: u.Old, Sig: u.Sig}, {},
	}
	for _, sig := range wrongSigs(u.Sig) {
		wrong = append(wrong, api.Update{Home: 7, Old: u.Old, New: u.New, Sig: sig})
	}
	for _, l := range logs() {
		for i, w := range wrong {
			if Right(l, root, w) {
				t.Errorf("%d is right", i)
			}
		}
		for _, r := range []api.Digest{{}, some(1), keys.New(nil, some(5)).Root(nil)} {
			if Right(l, r, u) {
				t.Errorf("right under %x", r)
			}
		}
		if !Right(l, root, u) {
			t.Error("it isn't right by now")
		}
	}
}

func TestHaltsRefuses(t *testing.T) {
	s := keys.New(nil, some(6))
	root := s.Root(nil)
	_, stop, _ := Stop(nil, s, 7, some(1), 2)
	wrong := []api.Stop{
		{Home: 8, Key: stop.Key, Watcher: 2, Sig: stop.Sig}, {Home: 7 | 1<<31, Key: stop.Key, Watcher: 2, Sig: stop.Sig},
		{Home: 7, Key: some(2), Watcher: 2, Sig: stop.Sig}, {Home: 7, Key: root, Watcher: 2, Sig: stop.Sig},
		{Home: 7, Key: stop.Key, Watcher: 1, Sig: stop.Sig}, {Home: 7, Key: stop.Key, Watcher: -2, Sig: stop.Sig},
		{Home: 7, Key: stop.Key, Watcher: 2 + 1<<31, Sig: stop.Sig}, {},
	}
	for _, sig := range wrongSigs(stop.Sig) {
		wrong = append(wrong, api.Stop{Home: 7, Key: stop.Key, Watcher: 2, Sig: sig})
	}
	for _, l := range logs() {
		for i, w := range wrong {
			if Halts(l, root, w) {
				t.Errorf("%d is right", i)
			}
		}
		for _, r := range []api.Digest{{}, stop.Key, keys.New(nil, some(5)).Root(nil)} {
			if Halts(l, r, stop) {
				t.Errorf("right under %x", r)
			}
		}
		if !Halts(l, root, stop) {
			t.Error("it isn't right by now")
		}
	}
}

// TestWatcherByLowestBits: the halt has no more of a watcher's number than its lowest 32 bits.
func TestWatcherByLowestBits(t *testing.T) {
	s := keys.New(nil, some(6))
	_, stop, _ := Stop(nil, s, 7, some(1), 2)
	stop.Watcher += 1 << 32
	if !Halts(nil, s.Root(nil), stop) {
		t.Error("it is of one halt")
	}
}

// TestOneIsntTheOther: a signature of an update makes no stop right, nor the other way round.
func TestOneIsntTheOther(t *testing.T) {
	s := keys.New(nil, some(7))
	root := s.Root(nil)
	_, u, _ := Sign(nil, s, 1, some(1), api.Digest{})
	_, stop, _ := Stop(nil, s, 1, some(1), 0)
	if Halts(nil, root, api.Stop{Home: 1, Key: some(1), Sig: u.Sig}) || Right(nil, root, api.Update{Home: 1, Old: some(1), Sig: stop.Sig}) {
		t.Error("one is the other")
	}
}

// TestSigOfNothing: the chapter's example.
func TestSigOfNothing(t *testing.T) {
	for _, root := range []api.Digest{{}, some(1), keys.New(nil, api.Digest{}).Root(nil)} {
		if Right(nil, root, api.Update{}) || Right(nil, root, api.Update{Home: 1, Old: some(1), New: some(2)}) || Halts(nil, root, api.Stop{}) {
			t.Errorf("right under %x", root)
		}
	}
}

func TestDouble(t *testing.T) {
	s := keys.New(nil, some(8))
	root := s.Root(nil)
	sign := func(home uint32, old, new api.Digest) api.Update {
		after, u, e := Sign(nil, s, home, old, new)
		if e != api.OK {
			t.Fatal(e)
		}
		s = after
		return u
	}
	a := sign(1, some(1), some(2))
	b := sign(1, some(1), some(3))
	turned := api.Update{Home: 1, Old: some(1), New: some(4), Sig: b.Sig}
	_, foreign, _ := Sign(nil, keys.New(nil, some(9)), 1, some(1), some(3))
	lone := map[string]api.Update{
		"itself":                        a,
		"the same claim by another key": sign(1, some(1), some(2)),
		"another home":                  sign(2, some(1), some(3)),
		"another old root":              sign(1, some(5), some(3)),
		"the next one":                  sign(1, some(2), some(3)),
		"another claim's signature":     turned,
		"no signature":                  {Home: 1, Old: some(1), New: some(3)},
		"another signer's":              foreign,
		"nothing":                       {},
	}
	for _, l := range logs() {
		if !Double(l, root, a, b) || !Double(l, root, b, a) {
			t.Error("they are double")
		}
		for what, c := range lone {
			if Double(l, root, a, c) || Double(l, root, c, a) {
				t.Errorf("%s: double", what)
			}
		}
		if Double(l, foreignRoot(), a, b) || Double(l, api.Digest{}, a, b) || Double(l, foreignRoot(), foreign, a) {
			t.Error("double under another root")
		}
	}
}

func foreignRoot() api.Digest { return keys.New(nil, some(9)).Root(nil) }

// TestDoubleOfOneKey: a key that was used twice.
func TestDoubleOfOneKey(t *testing.T) {
	s := keys.New(nil, some(8))
	_, a, _ := Sign(nil, s, 1, some(1), some(2))
	_, b, _ := Sign(nil, s, 1, some(1), some(3))
	if a.Sig.Index != b.Sig.Index || !Double(nil, s.Root(nil), a, b) {
		t.Error("they are double")
	}
}

// sigs: that may be written and read, whether somebody signed them or not.
func sigs() []api.Sig {
	l := []api.Sig{{}, {Index: 1}, {Index: math.MaxInt32, Parts: somes(32, 1), Others: somes(32, 40), Path: somes(32, 80)}}
	for n := range 5 {
		l = append(l, api.Sig{Index: n << (6 * n), Parts: somes(n, 1), Others: somes(8*n, 40), Path: somes(4-n, 80)})
	}
	_, u, _ := Sign(nil, keys.New(nil, some(1)), 1, some(1), some(2))
	return append(l, u.Sig)
}

func TestBytesAreReadAsTheyWere(t *testing.T) {
	for _, sig := range sigs() {
		for n, home := range homes {
			u := api.Update{Home: home, Old: some(n), New: some(n + 1), Sig: sig}
			if got := Bytes(u); got != updateBytes(u) {
				t.Errorf("%+v: %x", u, got)
			}
			if got, e := Read(Bytes(u)); e != api.OK || !sameUpdate(got, u) {
				t.Errorf("%+v is read as %+v, %v", u, got, e)
			}
		}
	}
}

func TestStopBytesAreReadAsTheyWere(t *testing.T) {
	for _, sig := range sigs() {
		for n, watcher := range []int{0, 1, 2, 258, math.MaxInt32} {
			s := api.Stop{Home: homes[n], Key: some(n), Watcher: watcher, Sig: sig}
			if got := StopBytes(s); got != stopBytes(s) {
				t.Errorf("%+v: %x", s, got)
			}
			if got, e := ReadStop(StopBytes(s)); e != api.OK || !sameStop(got, s) {
				t.Errorf("%+v is read as %+v, %v", s, got, e)
			}
		}
	}
}

// TestSignedIsRightWhenRead: and so it goes from hand to hand.
func TestSignedIsRightWhenRead(t *testing.T) {
	s := keys.New(nil, some(1))
	root := s.Root(nil)
	for i := range 8 {
		var u api.Update
		var stop api.Stop
		s, u, _ = Sign(nil, s, homes[i%len(homes)], some(i), some(i+1))
		s, stop, _ = Stop(nil, s, homes[i%len(homes)], some(i), i)
		if got, e := Read(Bytes(u)); e != api.OK || !Right(nil, root, got) {
			t.Errorf("update %d: %v", i, e)
		}
		if got, e := ReadStop(StopBytes(stop)); e != api.OK || !Halts(nil, root, got) {
			t.Errorf("stop %d: %v", i, e)
		}
	}
}

// TestBytesOfWhatCantBeRead: of numbers that don't fit, the lowest 32 bits are written.
func TestBytesOfWhatCantBeRead(t *testing.T) {
	for _, n := range watchers {
		u := api.Update{Home: 1, Sig: api.Sig{Index: n}}
		if Bytes(u) != updateBytes(u) {
			t.Errorf("index %d", n)
		}
		s := api.Stop{Home: 1, Watcher: n}
		if StopBytes(s) != stopBytes(s) {
			t.Errorf("watcher %d", n)
		}
	}
	long := api.Sig{Parts: somes(33, 1), Others: somes(100, 2), Path: somes(300, 3)}
	if u := (api.Update{Sig: long}); Bytes(u) != updateBytes(u) {
		t.Error("long lists of an update")
	}
	if s := (api.Stop{Sig: long}); StopBytes(s) != stopBytes(s) {
		t.Error("long lists of a stop")
	}
}

func refuses(t *testing.T, what, s string, wanted api.Errno) {
	t.Helper()
	if u, e := Read(s); e != wanted || !sameUpdate(u, api.Update{}) {
		t.Errorf("%s: %+v, %v, wanted %v", what, u, e, wanted)
	}
}

func refusesStop(t *testing.T, what, s string, wanted api.Errno) {
	t.Helper()
	if stop, e := ReadStop(s); e != wanted || !sameStop(stop, api.Stop{}) {
		t.Errorf("%s: %+v, %v, wanted %v", what, stop, e, wanted)
	}
}

func TestReadErrors(t *testing.T) {
	for _, sig := range sigs() {
		u := updateBytes(api.Update{Home: 1, Old: some(1), New: some(2), Sig: sig})
		s := stopBytes(api.Stop{Home: 1, Key: some(1), Watcher: 2, Sig: sig})
		for n := range len(u) {
			refuses(t, "too few", u[:n], api.ErrShort)
		}
		for n := range len(s) {
			refusesStop(t, "too few", s[:n], api.ErrShort)
		}
		for _, more := range []string{"\x00", "a", strings.Repeat("\x00", 40)} {
			refuses(t, "bytes left", u+more, api.ErrForm)
			refusesStop(t, "bytes left", s+more, api.ErrForm)
		}
	}
}

func TestReadErrorsOfSigs(t *testing.T) {
	cases := []struct {
		what   string
		sig    string
		wanted api.Errno
	}{
		{"an index of 2^31", sigBytes(api.Sig{Index: 1 << 31}), api.ErrRange},
		{"an index of -1", sigBytes(api.Sig{Index: -1}), api.ErrRange},
		{"an index of 2^31 alone", word(1 << 31), api.ErrRange},
		{"33 parts", sigBytes(api.Sig{Parts: somes(33, 1)}), api.ErrLong},
		{"33 others", sigBytes(api.Sig{Others: somes(33, 1)}), api.ErrLong},
		{"a path of 33", sigBytes(api.Sig{Path: somes(33, 1)}), api.ErrLong},
		{"a length alone", word(1) + word(33), api.ErrLong},
		{"the greatest length", word(1) + word(math.MaxUint32), api.ErrLong},
		{"an index ahead of a list", word(1<<31) + word(33), api.ErrRange},
		{"a list ahead of bytes left", sigBytes(api.Sig{Path: somes(33, 1)}) + "a", api.ErrLong},
		{"an index ahead of bytes left", sigBytes(api.Sig{Index: 1 << 31}) + "a", api.ErrRange},
	}
	for _, c := range cases {
		refuses(t, c.what, word(1)+strings.Repeat("d", 64)+c.sig, c.wanted)
		for _, watcher := range []uint32{0, math.MaxInt32, 1 << 31, math.MaxUint32} {
			refusesStop(t, c.what, word(1)+strings.Repeat("d", 32)+word(watcher)+c.sig, c.wanted)
		}
	}
}

// TestWatchersRange: its error stands behind all others.
func TestWatchersRange(t *testing.T) {
	for _, sig := range sigs() {
		if s, e := ReadStop(stopBytes(api.Stop{Watcher: math.MaxInt32, Sig: sig})); e != api.OK || s.Watcher != math.MaxInt32 {
			t.Errorf("the greatest: %+v, %v", s, e)
		}
		for _, watcher := range []int{1 << 31, 1<<31 + 1, math.MaxUint32, -1, math.MinInt32} {
			s := stopBytes(api.Stop{Home: 1, Key: some(1), Watcher: watcher, Sig: sig})
			refusesStop(t, "too great", s, api.ErrRange)
			refusesStop(t, "too great, bytes left", s+"a", api.ErrForm)
			for n := range len(s) {
				refusesStop(t, "too great, too few", s[:n], api.ErrShort)
			}
		}
	}
}

// TestReadIsWritten: bytes that are near an update's or a stop's are read as what is written so, or not at all.
func TestReadIsWritten(t *testing.T) {
	read := 0
	check := func(s string) {
		if u, e := Read(s); e == api.OK {
			read++
			if Bytes(u) != s {
				t.Errorf("%x is read as %+v", s, u)
			}
		} else if !sameUpdate(u, api.Update{}) {
			t.Errorf("%x: %+v beside %v", s, u, e)
		}
		if stop, e := ReadStop(s); e == api.OK {
			read++
			if StopBytes(stop) != s {
				t.Errorf("%x is read as %+v", s, stop)
			}
		} else if !sameStop(stop, api.Stop{}) {
			t.Errorf("%x: %+v beside %v", s, stop, e)
		}
	}
	sig := api.Sig{Index: 3, Parts: somes(1, 1), Path: somes(2, 3)}
	for _, s := range []string{Bytes(api.Update{Home: 1, Old: some(1), Sig: sig}), StopBytes(api.Stop{Home: 1, Key: some(1), Watcher: 1, Sig: sig})} {
		b := []byte(s)
		for at := range b {
			for _, x := range []byte{0, 1, 2, 0x7f, 0x80, 0xff} {
				was := b[at]
				b[at] = x
				check(string(b))
				b[at] = was
			}
		}
	}
	if read == 0 {
		t.Error("nothing was read")
	}
}

// roomy: a signer whose leaves have spare room, which is looked at as well.
func roomy(seed api.Digest) (keys.Signer, []api.Digest) {
	s := keys.New(nil, seed)
	room := append(slices.Clone(s.Leaves), somes(4, 900)...)
	s.Leaves = room[:len(s.Leaves)]
	return s, room
}

func TestSignersAreApart(t *testing.T) {
	s, room := roomy(some(1))
	was := slices.Clone(room)
	after, u, _ := Sign(nil, s, 1, some(1), some(2))
	again, v, _ := Sign(nil, s, 1, some(1), some(2))
	behind, stop, _ := Stop(nil, s, 1, some(1), 2)
	if !sameUpdate(u, v) || !sameSigner(after, again) || s.Next != 0 {
		t.Error("the same call answers another thing")
	}
	spent := s
	spent.Next = 16
	refused, _, _ := Sign(nil, spent, 1, some(1), some(2))
	refusedStop, _, _ := Stop(nil, spent, 1, some(1), 2)
	for _, a := range []keys.Signer{after, behind, refused, refusedStop} {
		for i := range a.Leaves {
			a.Leaves[i] = api.Digest{}
		}
	}
	for _, sig := range []api.Sig{u.Sig, stop.Sig} {
		for _, l := range [][]api.Digest{sig.Parts, sig.Others, sig.Path} {
			clear(l)
		}
	}
	if !slices.Equal(room, was) || !slices.Equal(again.Leaves, s.Leaves) || !Right(nil, s.Root(nil), v) {
		t.Error("an answer shares memory")
	}
}

func TestWhatIsHandedInIsntChanged(t *testing.T) {
	s := keys.New(nil, some(1))
	root := s.Root(nil)
	_, u, _ := Sign(nil, s, 1, some(1), some(2))
	_, v, _ := Sign(nil, s, 1, some(1), some(3))
	_, stop, _ := Stop(nil, s, 1, some(1), 2)
	wasU, wasV, wasStop := u, v, stop
	wasU.Sig, wasV.Sig, wasStop.Sig = cloned(u.Sig), cloned(v.Sig), cloned(stop.Sig)
	for _, l := range logs() {
		Right(l, root, u)
		Halts(l, root, stop)
		Double(l, root, u, v)
		Bytes(u)
		StopBytes(stop)
	}
	if !reflect.DeepEqual(u, wasU) || !reflect.DeepEqual(v, wasV) || !reflect.DeepEqual(stop, wasStop) {
		t.Error("changed")
	}
}

func TestReadAnswersAreApart(t *testing.T) {
	_, u, _ := Sign(nil, keys.New(nil, some(1)), 1, some(1), some(2))
	s := Bytes(u)
	a, _ := Read(s)
	b, _ := Read(s)
	for _, l := range [][]api.Digest{a.Sig.Parts, a.Sig.Others} {
		l = append(l, some(1), some(2))
		clear(l)
	}
	if !sameUpdate(b, u) || !slices.Equal(a.Sig.Path, u.Sig.Path) {
		t.Error("answers share memory")
	}
}

// TestEveryCallEnds: at numbers and lists of all sorts.
func TestEveryCallEnds(t *testing.T) {
	odd := append(sigs(), api.Sig{Index: -1}, api.Sig{Index: math.MinInt, Path: somes(4, 1)}, api.Sig{Index: math.MaxInt, Parts: somes(1000, 1)}, api.Sig{Parts: somes(32, 1), Others: somes(32, 1), Path: somes(70, 1)})
	for _, sig := range odd {
		for _, n := range watchers {
			u := api.Update{Home: math.MaxUint32, Sig: sig}
			stop := api.Stop{Home: math.MaxUint32, Watcher: n, Sig: sig}
			for _, l := range []*digest.Log{nil, {}, digest.New()} {
				Right(l, api.Digest{}, u)
				Halts(l, api.Digest{}, stop)
				Double(l, api.Digest{}, u, api.Update{Home: math.MaxUint32, New: some(1), Sig: sig})
				Sign(l, keys.Signer{Next: n, Leaves: sig.Parts}, 1, api.Digest{}, api.Digest{})
				Stop(l, keys.Signer{Next: n, Leaves: sig.Path}, 1, api.Digest{}, n)
			}
			Read(Bytes(u))
			ReadStop(StopBytes(stop))
		}
	}
	for _, s := range []string{"", "a", strings.Repeat("\xff", 1<<20), strings.Repeat("\x00", 1000), strings.Repeat("\x00", 84), strings.Repeat("\x00", 56)} {
		Read(s)
		ReadStop(s)
	}
}
