package keys

import (
	"crypto/sha256"
	"encoding/binary"
	"math"
	"reflect"
	"slices"
	"testing"

	"pontoon/api"
	"pontoon/digest"
	"pontoon/lamport"
	"pontoon/sha"
)

// two: the digest of two neighbours, by the library.
func two(a, b api.Digest) api.Digest {
	in := []byte{4}
	for _, d := range []api.Digest{a, b} {
		in = append(in, 0, 0, 0, 32)
		in = append(in, d[:]...)
	}
	return sha256.Sum256(in)
}

// top: of a whole tree's leaves, half by half.
func top(leaves []api.Digest) api.Digest {
	if len(leaves) == 1 {
		return leaves[0]
	}
	half := len(leaves) / 2
	return two(top(leaves[:half]), top(leaves[half:]))
}

// pathOf: the tops beside the way from a leaf, the lowest first.
func pathOf(leaves []api.Digest, index int) []api.Digest {
	if len(leaves) == 1 {
		return nil
	}
	half := len(leaves) / 2
	if index < half {
		return append(pathOf(leaves[:half], index), top(leaves[half:]))
	}
	return append(pathOf(leaves[half:], index-half), top(leaves[:half]))
}

func some(n int) api.Digest {
	return sha256.Sum256(binary.BigEndian.AppendUint64(nil, uint64(n)))
}

func somes(n, from int) []api.Digest {
	list := make([]api.Digest, n)
	for i := range list {
		list[i] = some(from + i)
	}
	return list
}

func isZeroSig(s api.Sig) bool {
	return s.Index == 0 && len(s.Parts) == 0 && len(s.Others) == 0 && len(s.Path) == 0
}

func sameSigner(a, b Signer) bool {
	return a.Seed == b.Seed && a.Next == b.Next && slices.Equal(a.Leaves, b.Leaves)
}

func clonedSig(s api.Sig) api.Sig {
	return api.Sig{Index: s.Index, Parts: slices.Clone(s.Parts), Others: slices.Clone(s.Others), Path: slices.Clone(s.Path)}
}

// noKeys: indexes that no key has, those that have a key's low bits among them.
var noKeys = []int{-1, -15, -16, 16, 17, 31, 256, 1 << 32, 1<<32 + 3, math.MaxInt, math.MinInt, math.MinInt + 5}

// notAll: how many leaves no signer has.
var notAll = []int{0, 1, 2, 8, 15, 17, 32, 100}

func logs() []*digest.Log { return []*digest.Log{nil, digest.New()} }

func TestKnownRoot(t *testing.T) {
	// Made by another program.
	if got := sha.Text(New(nil, api.Digest{1}).Root(nil)); got != "9f5c28282be0dd602ac86be0827afeb04eb87008fb9754d4c9db092ca0a5c9ab" {
		t.Error(got)
	}
}

func TestNew(t *testing.T) {
	for _, seed := range []api.Digest{{}, {1}, some(1)} {
		for _, l := range logs() {
			s := New(l, seed)
			if s.Seed != seed || s.Next != 0 || len(s.Leaves) != 16 {
				t.Fatalf("%x: %d, %d leaves", s.Seed, s.Next, len(s.Leaves))
			}
			for i, leaf := range s.Leaves {
				if leaf != lamport.Word(nil, seed, i) {
					t.Errorf("leaf %d: %x", i, leaf)
				}
				if l != nil && !l.Has(leaf) {
					t.Errorf("leaf %d isn't noted", i)
				}
			}
		}
	}
}

func TestRoot(t *testing.T) {
	for n := range 20 {
		s := Signer{Seed: some(n), Next: n - 5, Leaves: somes(16, 100*n)}
		for _, l := range logs() {
			if got := s.Root(l); got != top(s.Leaves) {
				t.Errorf("%d: %x", n, got)
			}
			if l != nil && (l.Count() != 15 || !l.Has(top(s.Leaves))) {
				t.Errorf("%d: %d noted", n, l.Count())
			}
		}
	}
	if New(nil, some(1)).Root(nil) == New(nil, some(2)).Root(nil) {
		t.Error("two seeds have one root")
	}
}

func TestRootWithoutAllLeaves(t *testing.T) {
	for _, n := range notAll {
		l := digest.New()
		if got := (Signer{Leaves: somes(n, 0)}).Root(l); got != (api.Digest{}) || l.Count() != 0 {
			t.Errorf("%d leaves: %x, %d noted", n, got, l.Count())
		}
	}
	if (Signer{}).Root(nil) != (api.Digest{}) {
		t.Error("no leaves")
	}
}

func TestAgain(t *testing.T) {
	whole := New(nil, some(1))
	for index := range 16 {
		d := some(50 + index)
		parts, others := lamport.Sign(nil, whole.Seed, index, d)
		want := api.Sig{Index: index, Parts: parts, Others: others, Path: pathOf(whole.Leaves, index)}
		// Whichever key is the next one, used or not.
		for _, next := range []int{0, 5, 16, -1, math.MaxInt, math.MinInt} {
			s := Signer{Seed: whole.Seed, Next: next, Leaves: whole.Leaves}
			for _, l := range logs() {
				if got, e := s.Again(l, index, d); e != api.OK || !reflect.DeepEqual(got, want) {
					t.Errorf("key %d, next %d: %v", index, next, e)
				}
			}
		}
	}
}

func TestAgainOfLeavesAsTheyAre(t *testing.T) {
	s := Signer{Seed: some(1), Leaves: somes(16, 0)}
	for index := range 16 {
		if got, e := s.Again(nil, index, some(2)); e != api.OK || !slices.Equal(got.Path, pathOf(s.Leaves, index)) {
			t.Errorf("key %d: %v", index, e)
		}
	}
}

func TestAgainRefuses(t *testing.T) {
	s := New(nil, some(1))
	for _, index := range noKeys {
		l := digest.New()
		if got, e := s.Again(l, index, some(2)); e != api.ErrArg || !isZeroSig(got) || l.Count() != 0 {
			t.Errorf("key %d: %v, %d noted", index, e, l.Count())
		}
	}
	for _, n := range notAll {
		s := Signer{Seed: some(1), Leaves: somes(n, 0)}
		for _, index := range append([]int{0, 1, 15}, noKeys...) {
			if got, e := s.Again(nil, index, some(2)); e != api.ErrArg || !isZeroSig(got) {
				t.Errorf("%d leaves, key %d: %v", n, index, e)
			}
		}
	}
}

func TestSign(t *testing.T) {
	s := New(nil, some(1))
	for i := range 16 {
		d := some(i)
		want, _ := s.Again(nil, i, d)
		after, got, e := s.Sign(nil, d)
		if e != api.OK || !reflect.DeepEqual(got, want) {
			t.Errorf("signing %d: %v", i, e)
		}
		if !sameSigner(after, Signer{Seed: s.Seed, Next: i + 1, Leaves: s.Leaves}) {
			t.Errorf("signing %d: the next one is %d", i, after.Next)
		}
		if s.Next != i {
			t.Errorf("signing %d: the signer itself has changed", i)
		}
		s = after
	}
	if after, got, e := s.Sign(nil, some(16)); e != api.ErrSpent || !isZeroSig(got) || !sameSigner(after, s) {
		t.Error("the 17th:", e)
	}
}

func TestSignRefuses(t *testing.T) {
	for _, n := range append([]int{16}, notAll...) {
		for _, next := range noKeys {
			s := Signer{Seed: some(1), Next: next, Leaves: somes(n, 0)}
			l := digest.New()
			after, got, e := s.Sign(l, some(2))
			if e != api.ErrSpent || !isZeroSig(got) || !sameSigner(after, s) || l.Count() != 0 {
				t.Errorf("%d leaves, next %d: %v", n, next, e)
			}
		}
	}
	for _, n := range notAll {
		for _, next := range []int{0, 7, 15} {
			s := Signer{Seed: some(1), Next: next, Leaves: somes(n, 0)}
			after, got, e := s.Sign(nil, some(2))
			if e != api.ErrArg || !isZeroSig(got) || !sameSigner(after, s) {
				t.Errorf("%d leaves, next %d: %v", n, next, e)
			}
		}
	}
}

func TestClimb(t *testing.T) {
	leaf := some(1)
	a, b := some(2), some(3)
	cases := []struct {
		index int
		path  []api.Digest
		want  api.Digest
	}{
		{0, nil, leaf},
		{5, []api.Digest{}, leaf},
		{0, []api.Digest{a}, two(leaf, a)},
		{1, []api.Digest{a}, two(a, leaf)},
		{2, []api.Digest{a}, two(leaf, a)},
		{0, []api.Digest{a, b}, two(two(leaf, a), b)},
		{1, []api.Digest{a, b}, two(two(a, leaf), b)},
		{2, []api.Digest{a, b}, two(b, two(leaf, a))},
		{3, []api.Digest{a, b}, two(b, two(a, leaf))},
		{4, []api.Digest{a, b}, two(two(leaf, a), b)},
		{math.MaxInt, []api.Digest{a, b}, two(b, two(a, leaf))},
		{-1, []api.Digest{a, b}, two(b, two(a, leaf))},
		{-2, []api.Digest{a, b}, two(b, two(leaf, a))},
		{math.MinInt, []api.Digest{a, b}, two(two(leaf, a), b)},
	}
	for _, c := range cases {
		for _, l := range logs() {
			if got := Climb(l, leaf, c.index, c.path); got != c.want {
				t.Errorf("index %d, path of %d: %x", c.index, len(c.path), got)
			}
			if l != nil && l.Count() != len(c.path) {
				t.Errorf("index %d, path of %d: %d noted", c.index, len(c.path), l.Count())
			}
		}
	}
}

func TestClimbOfLongPaths(t *testing.T) {
	for _, index := range []int{0, 5, math.MaxInt32, math.MaxInt, -1, -6, math.MinInt, math.MinInt + 1} {
		for _, n := range []int{4, 63, 64, 65, 200} {
			path := somes(n, 0)
			if got := Climb(nil, some(999), index, path); got != climbedByBits(index, some(999), path) {
				t.Errorf("index %d, path of %d: %x", index, n, got)
			}
		}
	}
}

// climbedByBits: by the bits of a number of 64 bits, and its sign behind them.
func climbedByBits(index int, at api.Digest, path []api.Digest) api.Digest {
	for i, p := range path {
		one := index < 0
		if i < 64 {
			one = uint64(index)&(1<<i) != 0
		}
		if one {
			at = two(p, at)
		} else {
			at = two(at, p)
		}
	}
	return at
}

func TestSignedIsVerified(t *testing.T) {
	for n := range 3 {
		l := digest.New()
		s := New(l, some(n))
		root := s.Root(l)
		for i := range 16 {
			d := some(100*n + i)
			after, sig, e := s.Sign(l, d)
			if e != api.OK || sig.Index != i {
				t.Fatalf("signing %d: key %d, %v", i, sig.Index, e)
			}
			if !Verify(l, root, d, sig) || !Verify(nil, root, d, sig) {
				t.Errorf("signing %d isn't verified", i)
			}
			if after.Root(nil) != root {
				t.Errorf("signing %d: the root has changed", i)
			}
			s = after
		}
		if l.Clash() {
			t.Error("a clash")
		}
	}
}

func TestVerifyRefuses(t *testing.T) {
	s := New(nil, some(1))
	root, d := s.Root(nil), some(2)
	good, _ := s.Again(nil, 5, d)
	for _, turn := range []struct {
		what string
		do   func(sig *api.Sig)
	}{
		{"another key", func(sig *api.Sig) { sig.Index = 4 }},
		{"a turned part", func(sig *api.Sig) { sig.Parts[31][31] ^= 1 }},
		{"a turned other", func(sig *api.Sig) { sig.Others[0][0] ^= 128 }},
		{"a turned path", func(sig *api.Sig) { sig.Path[3][9] ^= 1 }},
		{"a part less", func(sig *api.Sig) { sig.Parts = sig.Parts[:31] }},
		{"an other less", func(sig *api.Sig) { sig.Others = sig.Others[:31] }},
		{"a part more", func(sig *api.Sig) { sig.Parts = append(sig.Parts, api.Digest{}) }},
		{"an other more", func(sig *api.Sig) { sig.Others = append(sig.Others, api.Digest{}) }},
		{"no parts", func(sig *api.Sig) { sig.Parts = nil }},
		{"no others", func(sig *api.Sig) { sig.Others = nil }},
		{"no path", func(sig *api.Sig) { sig.Path = nil }},
		{"nothing", func(sig *api.Sig) { *sig = api.Sig{} }},
		{"halves the other way round", func(sig *api.Sig) { sig.Parts, sig.Others = sig.Others, sig.Parts }},
		{"path the other way round", func(sig *api.Sig) { slices.Reverse(sig.Path) }},
	} {
		sig := clonedSig(good)
		turn.do(&sig)
		if Verify(nil, root, d, sig) || Verify(digest.New(), root, d, sig) {
			t.Error(turn.what, "is verified")
		}
	}
	if !Verify(nil, root, d, good) {
		t.Error("a good one isn't verified")
	}
	for _, other := range []api.Digest{{}, some(3), New(nil, some(2)).Root(nil), s.Leaves[5]} {
		if Verify(nil, other, d, good) || Verify(nil, root, other, good) {
			t.Errorf("verified for %x", other)
		}
	}
}

func TestVerifyRefusesIndexesOfNoKey(t *testing.T) {
	s := New(nil, some(1))
	root, d := s.Root(nil), some(2)
	for _, index := range noKeys {
		// Four levels look at four bits: the way up is that of a key.
		sig, _ := s.Again(nil, index&15, d)
		sig.Index = index
		word, _ := lamport.Opened(nil, d, sig.Parts, sig.Others)
		if Climb(nil, word, index, sig.Path) != root {
			t.Errorf("index %d: the way up is another", index)
		}
		if Verify(nil, root, d, sig) {
			t.Errorf("index %d is verified", index)
		}
	}
}

func TestVerifyRefusesPathsOfOtherLengths(t *testing.T) {
	s := New(nil, some(1))
	d := some(2)
	for _, n := range []int{0, 1, 3, 4, 5, 8, 100} {
		sig, _ := s.Again(nil, 0, d)
		sig.Path = somes(n, 0)
		word, _ := lamport.Opened(nil, d, sig.Parts, sig.Others)
		root := Climb(nil, word, 0, sig.Path)
		if Verify(nil, root, d, sig) != (n == 4) {
			t.Errorf("path of %d", n)
		}
	}
}

func TestVerifyRefusesWhatIsntOpened(t *testing.T) {
	// Not even under the root that the zero digest would climb to.
	sig := api.Sig{Index: 3, Parts: somes(31, 0), Others: somes(32, 50), Path: somes(4, 100)}
	if Verify(nil, Climb(nil, api.Digest{}, 3, sig.Path), some(2), sig) {
		t.Error("verified")
	}
}

func TestVerifyLooksAtTheBitsTold(t *testing.T) {
	s := New(nil, some(1))
	l := digest.New()
	root, d := s.Root(l), some(2)
	sig, _ := s.Again(l, 9, d)
	for i := range 256 {
		turned := d
		turned[i/8] ^= 128 >> (i % 8)
		if Verify(l, root, turned, sig) != (i >= 32) {
			t.Errorf("turned at %d", i)
		}
	}
	if l.Clash() {
		t.Error("a clash")
	}
}

func TestUsedKeyIsntUsedAgain(t *testing.T) {
	s := New(nil, some(1))
	used := map[int]bool{}
	for n := range 40 {
		after, sig, e := s.Sign(nil, some(7))
		if e == api.OK {
			if used[sig.Index] {
				t.Errorf("key %d is used again", sig.Index)
			}
			used[sig.Index] = true
		}
		if (e == api.OK) != (n < 16) {
			t.Errorf("signing %d: %v", n, e)
		}
		s = after
	}
	if len(used) != 16 {
		t.Errorf("%d keys were used", len(used))
	}
}

func TestBook(t *testing.T) {
	a, b, c := some(1), some(2), some(3)
	var book []Signed
	if Has(book, a, b) || Has([]Signed{}, api.Digest{}, api.Digest{}) {
		t.Error("an empty book has something")
	}
	pairs := []Signed{{a, b}, {b, a}, {a, c}, {a, a}, {}, {c, api.Digest{}}}
	for i, p := range pairs {
		if Has(book, p.Root, p.Digest) {
			t.Errorf("pair %d is there ahead of time", i)
		}
		book = Note(book, p.Root, p.Digest)
		for _, q := range pairs[:i+1] {
			book = Note(book, q.Root, q.Digest)
			if !Has(book, q.Root, q.Digest) {
				t.Errorf("pair %d: an earlier one is gone", i)
			}
		}
		if !slices.Equal(book, pairs[:i+1]) {
			t.Errorf("pair %d: a book of %d", i, len(book))
		}
	}
	if Has(book, c, a) || Has(book, b, b) || Has(book, b, c) {
		t.Error("a pair of halves of two others is there")
	}
}

func TestBookWithTwins(t *testing.T) {
	a, b := some(1), some(2)
	twins := []Signed{{a, b}, {a, b}}
	if got := Note(twins, a, b); !slices.Equal(got, twins) {
		t.Error("what stands there stays:", len(got))
	}
	if got := Note(twins, b, a); !slices.Equal(got, []Signed{{a, b}, {a, b}, {b, a}}) {
		t.Error("behind all:", len(got))
	}
}

func TestBooksAreApart(t *testing.T) {
	a, b := some(1), some(2)
	page := make([]Signed, 4)
	page[0] = Signed{a, b}
	one := Note(page[:1], b, b)
	other := Note(page[:1], a, a)
	same := Note(page[:1], a, b)
	same[0] = Signed{}
	if page[0] != (Signed{a, b}) || page[1] != (Signed{}) {
		t.Error("what was handed in is changed")
	}
	if !slices.Equal(one, []Signed{{a, b}, {b, b}}) || !slices.Equal(other, []Signed{{a, b}, {a, a}}) {
		t.Error("two books share memory")
	}
	empty := make([]Signed, 1)
	if Note(empty[:0], a, b); empty[0] != (Signed{}) {
		t.Error("spare room is changed")
	}
}

func TestSignersAreApart(t *testing.T) {
	s := New(nil, some(1))
	leaves := slices.Clone(s.Leaves)
	s.Root(nil)
	after, sig, _ := s.Sign(nil, some(2))
	for i := range after.Leaves {
		after.Leaves[i] = api.Digest{}
	}
	for i := range sig.Path {
		sig.Path[i] = api.Digest{}
	}
	spent, _, _ := Signer{Seed: s.Seed, Next: 16, Leaves: s.Leaves}.Sign(nil, some(2))
	spent.Leaves[0] = api.Digest{}
	if !slices.Equal(s.Leaves, leaves) || s.Root(nil) != New(nil, some(1)).Root(nil) {
		t.Error("what was handed in is changed")
	}
}

func TestSignatureIsntChanged(t *testing.T) {
	s := New(nil, some(1))
	sig, _ := s.Again(nil, 3, some(2))
	kept := clonedSig(sig)
	spare := append(sig.Path, api.Digest{7}, api.Digest{8})
	sig.Path = spare[:4]
	Verify(digest.New(), s.Root(nil), some(2), sig)
	Climb(nil, some(2), 3, sig.Path)
	if !reflect.DeepEqual(sig, kept) || spare[4] != (api.Digest{7}) || spare[5] != (api.Digest{8}) {
		t.Error("what was handed in is changed")
	}
}
