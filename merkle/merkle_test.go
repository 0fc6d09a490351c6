package merkle

import (
	"crypto/sha256"
	"encoding/binary"
	"math"
	"slices"
	"testing"

	"pontoon/api"
	"pontoon/digest"
	"pontoon/sha"
)

// two: the digest of two neighbours, by the library.
func two(a, b api.Digest) api.Digest {
	in := []byte{6}
	for _, d := range []api.Digest{a, b} {
		in = append(in, 0, 0, 0, 32)
		in = append(in, d[:]...)
	}
	return sha256.Sum256(in)
}

// top: of the part of a tree that is so many levels high, half by half.
func top(leaves []api.Digest, height int) api.Digest {
	if height == 0 {
		if len(leaves) == 0 {
			return api.Digest{}
		}
		return leaves[0]
	}
	if len(leaves) == 0 {
		below := top(nil, height-1)
		return two(below, below)
	}
	left, right := halves(leaves, height)
	return two(top(left, height-1), top(right, height-1))
}

func halves(leaves []api.Digest, height int) ([]api.Digest, []api.Digest) {
	half := min(len(leaves), 1<<(height-1))
	return leaves[:half], leaves[half:]
}

// beside: the tops beside the way from a leaf, the lowest first.
func beside(leaves []api.Digest, at, height int) []api.Digest {
	if height == 0 {
		return nil
	}
	left, right := halves(leaves, height)
	if at>>(height-1)&1 == 0 {
		return append(beside(left, at, height-1), top(right, height-1))
	}
	return append(beside(right, at, height-1), top(left, height-1))
}

func some(n int) api.Digest {
	return sha256.Sum256(binary.BigEndian.AppendUint64(nil, uint64(n)))
}

func somes(n, from int) []api.Digest {
	list := make([]api.Digest, n)
	for i := range list {
		list[i] = some(from + i)
	}
	return list
}

func logs() []*digest.Log { return []*digest.Log{nil, digest.New()} }

// withRoom: the list again, with spare room behind it.
func withRoom(list []api.Digest) []api.Digest {
	room := append(slices.Clone(list), some(-1), some(-2), some(-3))
	return room[:len(list)]
}

// unhurt: are a list and the room behind it as withRoom made them?
func unhurt(list, was []api.Digest) bool {
	room := list[:len(was)+3]
	return slices.Equal(room, append(slices.Clone(was), some(-1), some(-2), some(-3)))
}

func TestKnown(t *testing.T) {
	// Made by another program.
	five := []api.Digest{{1}, {2}, {3}, {4}, {5}}
	for _, c := range []struct {
		got  api.Digest
		want string
	}{
		{Nought(nil, 1), "75ec31d968528d921048790071da3a37840576c83889fcfa7fc179c237805841"},
		{Nought(nil, 32), "a227c7557abab66ed0594999d1a6168ec60c3b8a7b5d0c36aaa416aaa30e897f"},
		{Of(nil), "a227c7557abab66ed0594999d1a6168ec60c3b8a7b5d0c36aaa416aaa30e897f"},
		{Of(nil, api.Digest{1}), "ed61e4c3b7fb5169fb70757d9b22d61099d4d4dd96946772f6b1434a45f38efd"},
		{Of(nil, five...), "0841f8ff08071884828d98981fab63f5917cd2fe3f4a52fed1d92cd2638aba54"},
		{Root(nil, Keep(nil, five...)), "0841f8ff08071884828d98981fab63f5917cd2fe3f4a52fed1d92cd2638aba54"},
		{Of(nil, somes(4096, 0)...), "6666bf00a24ce8cba9e523ff1036183a5836625089788743e43efc8fcb72f0f8"},
	} {
		if got := sha.Text(c.got); got != c.want {
			t.Errorf("%s, wanted %s", got, c.want)
		}
	}
}

func TestNought(t *testing.T) {
	for level := range 33 {
		l := digest.New()
		want := top(nil, level)
		if got := Nought(l, level); got != want || Nought(nil, level) != want {
			t.Errorf("level %d: %x", level, got)
		}
		if level > 0 && !l.Has(want) {
			t.Errorf("level %d isn't noted", level)
		}
	}
	for _, level := range []int{-1, -2, -32, -33, 33, 34, 64, 65, 1 << 32, 1<<32 + 1, math.MaxInt, math.MinInt, math.MinInt + 1} {
		if got := Nought(nil, level); got != (api.Digest{}) {
			t.Errorf("level %d: %x", level, got)
		}
	}
}

// counts: how many leaves, at and about the powers of two.
func counts() []int {
	var list []int
	for n := range 35 {
		list = append(list, n)
	}
	return append(list, 63, 64, 65, 100, 127, 128, 129, 1000, 4094, 4095, 4096)
}

func TestOf(t *testing.T) {
	for _, n := range counts() {
		leaves := somes(n, 0)
		want := top(leaves, 32)
		for _, l := range logs() {
			if got := Of(l, leaves...); got != want {
				t.Errorf("%d leaves: %x", n, got)
			}
			if l != nil && !l.Has(want) {
				t.Errorf("%d leaves: the root isn't noted", n)
			}
		}
	}
}

func TestOfFirstLeavesAlone(t *testing.T) {
	many := somes(9000, 0)
	want := top(many[:4096], 32)
	for _, n := range []int{4096, 4097, 4098, 8192, 9000} {
		if got := Of(nil, many[:n]...); got != want {
			t.Errorf("%d leaves: %x", n, got)
		}
	}
	if Of(nil, many[:4095]...) == want {
		t.Error("the last one that has room doesn't count")
	}
}

func TestOfHangsOnEachLeaf(t *testing.T) {
	leaves := somes(11, 0)
	root := Of(nil, leaves...)
	for i := range leaves {
		other := slices.Clone(leaves)
		other[i][31] ^= 1
		if Of(nil, other...) == root {
			t.Errorf("leaf %d doesn't count", i)
		}
		turned := slices.Clone(leaves)
		turned[i], turned[(i+1)%11] = turned[(i+1)%11], turned[i]
		if Of(nil, turned...) == root {
			t.Errorf("leaf %d may stand elsewhere", i)
		}
	}
	// Behind the leaves are noughts: a zero leaf there is one of them.
	if Of(nil, append(slices.Clone(leaves), api.Digest{})...) != root {
		t.Error("a zero leaf behind the others")
	}
}

// climbed: a tree's root, as the document goes up.
func climbed(t api.Tree) api.Digest {
	var come api.Digest
	for level := range 32 {
		if t.Count&(1<<level) != 0 {
			come = two(t.Branches[level], come)
		} else {
			come = two(come, top(nil, level))
		}
	}
	return come
}

func TestRoot(t *testing.T) {
	var tree api.Tree
	for level := range tree.Branches {
		tree.Branches[level] = some(500 + level)
	}
	for _, n := range []uint32{0, 1, 2, 3, 4, 5, 0xaaaa, 0x5555, 4095, 4096, 4097, 8191, 1 << 16, 1<<31 - 1, 1 << 31, 1<<31 + 1, 0xaaaaaaaa, 0x55555555, math.MaxUint32 - 1, math.MaxUint32} {
		tree.Count = n
		for _, l := range logs() {
			if got := Root(l, tree); got != climbed(tree) {
				t.Errorf("count %d: %x", n, got)
			}
			if l != nil && !l.Has(climbed(tree)) {
				t.Errorf("count %d: the root isn't noted", n)
			}
		}
		for level := range 32 {
			other := tree
			other.Branches[level][7] ^= 1
			counts := n>>level&1 == 1
			if (Root(nil, other) != Root(nil, tree)) != counts {
				t.Errorf("count %d, level %d: counts %v", n, level, !counts)
			}
		}
	}
	if Root(nil, api.Tree{}) != Nought(nil, 32) {
		t.Error("the empty tree")
	}
}

func TestInsert(t *testing.T) {
	leaves := somes(4096, 0)
	var tree api.Tree
	for i, leaf := range leaves {
		was := tree
		more, e := Insert(nil, tree, leaf)
		if e != api.OK || more.Count != uint32(i+1) {
			t.Fatalf("leaf %d: %v, %d", i, e, more.Count)
		}
		if tree != was {
			t.Fatalf("leaf %d: the tree was changed", i)
		}
		changed := lowest(i + 1)
		for level := range 32 {
			want := was.Branches[level]
			if level == changed {
				want = top(leaves[i+1-1<<level:i+1], level)
			}
			if more.Branches[level] != want {
				t.Fatalf("leaf %d: level %d", i, level)
			}
		}
		tree = more
	}
	if again, e := Insert(nil, tree, some(1)); e != api.ErrMany || again != tree {
		t.Errorf("a full tree: %v", e)
	}
}

// lowest: the lowest bit that is 1.
func lowest(n int) int {
	at := 0
	for n&1 == 0 {
		n >>= 1
		at++
	}
	return at
}

func TestInsertNotes(t *testing.T) {
	leaves := somes(8, 0)
	l := digest.New()
	tree := Keep(nil, leaves[:7]...)
	more, e := Insert(l, tree, leaves[7])
	plain, f := Insert(nil, tree, leaves[7])
	if e != f || more != plain {
		t.Error("it hangs on the log")
	}
	if l.Count() != 3 || !l.Has(two(leaves[6], leaves[7])) || !l.Has(top(leaves[4:], 2)) || !l.Has(top(leaves, 3)) {
		t.Errorf("%d noted", l.Count())
	}
}

func TestInsertWithOldBranches(t *testing.T) {
	// What stands at the levels that don't count is left alone, and makes no difference.
	leaves := somes(40, 0)
	var tree api.Tree
	for level := range tree.Branches {
		tree.Branches[level] = some(900 + level)
	}
	was := tree
	for i, leaf := range leaves {
		tree, _ = Insert(nil, tree, leaf)
		if Root(nil, tree) != top(leaves[:i+1], 32) {
			t.Errorf("leaf %d", i)
		}
	}
	for level := 6; level < 32; level++ {
		if tree.Branches[level] != was.Branches[level] {
			t.Errorf("level %d", level)
		}
	}
}

func TestInsertMany(t *testing.T) {
	tree := Keep(nil, somes(100, 0)...)
	for _, n := range []uint32{4096, 4097, 8191, 1 << 31, math.MaxUint32 - 1, math.MaxUint32} {
		tree.Count = n
		l := digest.New()
		if got, e := Insert(l, tree, some(1)); e != api.ErrMany || got != tree || l.Count() != 0 {
			t.Errorf("count %d: %v", n, e)
		}
	}
	tree.Count = 4095
	if got, e := Insert(nil, tree, some(1)); e != api.OK || got.Count != 4096 {
		t.Errorf("the last one: %v", e)
	}
}

func TestKeep(t *testing.T) {
	many := somes(4200, 0)
	var tree api.Tree
	for i := range 70 {
		for _, l := range logs() {
			if got := Keep(l, many[:i]...); got != tree {
				t.Errorf("%d leaves", i)
			}
		}
		tree, _ = Insert(nil, tree, many[i])
	}
	whole := Keep(nil, many[:4096]...)
	if whole.Count != 4096 || Root(nil, whole) != top(many[:4096], 32) {
		t.Error("4096 leaves")
	}
	for _, n := range []int{4097, 4200} {
		if Keep(nil, many[:n]...) != whole {
			t.Errorf("%d leaves", n)
		}
	}
}

func TestRootIsThatOfTheLeaves(t *testing.T) {
	for _, n := range append(counts(), 4097, 5000) {
		leaves := somes(n, 3*n)
		if Root(nil, Keep(nil, leaves...)) != Of(nil, leaves...) {
			t.Errorf("%d leaves", n)
		}
	}
}

func TestBranch(t *testing.T) {
	for _, n := range []int{1, 2, 3, 4, 5, 7, 8, 9, 16, 17, 33} {
		leaves := somes(n, 50*n)
		root := top(leaves, 32)
		for at := range n {
			want := beside(leaves, at, 32)
			for _, l := range logs() {
				got, e := Branch(l, leaves, at)
				if e != api.OK || !slices.Equal(got, want) {
					t.Errorf("%d leaves, at %d: %v", n, at, e)
				}
				if !Proves(l, root, leaves[at], uint32(at), got) {
					t.Errorf("%d leaves: the branch at %d doesn't prove", n, at)
				}
				if l != nil && l.Clash() {
					t.Error("a clash")
				}
			}
		}
	}
}

func TestBranchOfManyLeaves(t *testing.T) {
	leaves := somes(4096, 0)
	for _, n := range []int{4095, 4096} {
		root := Of(nil, leaves[:n]...)
		for _, at := range []int{0, 1, 2047, 2048, n - 2, n - 1} {
			got, e := Branch(nil, leaves[:n], at)
			if e != api.OK || !slices.Equal(got, beside(leaves[:n], at, 32)) || !Proves(nil, root, leaves[at], uint32(at), got) {
				t.Errorf("%d leaves, at %d: %v", n, at, e)
			}
		}
	}
}

func TestBranchErrors(t *testing.T) {
	many := somes(4098, 0)
	for _, c := range []struct {
		n, at int
		want  api.Errno
	}{
		{0, 0, api.ErrArg},
		{0, -1, api.ErrArg},
		{1, 1, api.ErrArg},
		{5, 5, api.ErrArg},
		{5, 6, api.ErrArg},
		{5, -1, api.ErrArg},
		{5, math.MinInt, api.ErrArg},
		{5, math.MaxInt, api.ErrArg},
		{5, 1 << 32, api.ErrArg},
		{5, 1<<32 + 1, api.ErrArg},
		{4096, 4096, api.ErrArg},
		{4097, 0, api.ErrMany},
		{4097, 4095, api.ErrMany},
		{4097, 4096, api.ErrMany},
		{4098, 4097, api.ErrMany},
		// Both are wrong: the one that is named first.
		{4097, 4097, api.ErrArg},
		{4097, -1, api.ErrArg},
		{4098, math.MaxInt, api.ErrArg},
	} {
		got, e := Branch(nil, many[:c.n], c.at)
		if e != c.want || len(got) != 0 {
			t.Errorf("%d leaves, at %d: %v, %d digests", c.n, c.at, e, len(got))
		}
	}
}

func TestClimb(t *testing.T) {
	long := somes(40, 700)
	for _, at := range []uint32{0, 1, 2, 3, 0xaaaaaaaa, 0x55555555, 1 << 31, 1<<31 - 1, math.MaxUint32} {
		want := some(9)
		for n := range 41 {
			for _, l := range logs() {
				if got := Climb(l, some(9), at, long[:n]); got != want {
					t.Errorf("at %d, %d levels: %x", at, n, got)
				}
			}
			if n >= 32 {
				continue
			}
			if at&(1<<n) != 0 {
				want = two(long[n], want)
			} else {
				want = two(want, long[n])
			}
		}
	}
	if Climb(nil, some(9), 5, nil) != some(9) {
		t.Error("no branch")
	}
}

func TestProves(t *testing.T) {
	leaves := somes(13, 0)
	root := Of(nil, leaves...)
	branch, _ := Branch(nil, leaves, 6)
	if !Proves(nil, root, leaves[6], 6, branch) {
		t.Error("the branch")
	}
	for i := range branch {
		other := slices.Clone(branch)
		other[i][0] ^= 128
		if Proves(nil, root, leaves[6], 6, other) {
			t.Errorf("another neighbour at level %d", i)
		}
		if Proves(nil, root, leaves[6], 6^1<<i, branch) {
			t.Errorf("another side at level %d", i)
		}
	}
	for i, leaf := range leaves {
		if i != 6 && Proves(nil, root, leaf, 6, branch) {
			t.Errorf("leaf %d at place 6", i)
		}
	}
	if Proves(nil, api.Digest{}, leaves[6], 6, branch) || Proves(nil, leaves[6], leaves[6], 6, branch) {
		t.Error("another root")
	}
}

func TestProvesWantsAllLevels(t *testing.T) {
	long := somes(40, 0)
	leaf := some(77)
	for n := range 41 {
		root := Climb(nil, leaf, 12345, long[:n])
		if got := Proves(nil, root, leaf, 12345, long[:n]); got != (n == 32) {
			t.Errorf("%d levels: %v", n, got)
		}
	}
	if Proves(nil, leaf, leaf, 0, nil) {
		t.Error("a leaf alone proves itself")
	}
}

func TestProvesNotesTheWay(t *testing.T) {
	// Were another leaf proven at that place, both ways would be noted, and two unlike inputs have one digest: a clash.
	leaves := somes(9, 0)
	root := Of(nil, leaves...)
	for at := range leaves {
		branch, _ := Branch(nil, leaves, at)
		l := digest.New()
		if !Proves(l, root, leaves[at], uint32(at), branch) {
			t.Fatalf("at %d", at)
		}
		for n := range 32 {
			if !l.Has(Climb(nil, leaves[at], uint32(at), branch[:n+1])) {
				t.Errorf("at %d: level %d isn't noted", at, n)
			}
		}
		if Proves(l, root, some(1000), uint32(at), branch) || l.Clash() {
			t.Errorf("at %d: another leaf is proven", at)
		}
		if l.Count() != 64 {
			t.Errorf("at %d: %d noted", at, l.Count())
		}
	}
}

func TestMemory(t *testing.T) {
	for _, n := range []int{1, 2, 3, 5, 8, 4097} {
		was := somes(n, 0)
		leaves := withRoom(was)
		Of(nil, leaves...)
		Keep(nil, leaves...)
		a, _ := Branch(nil, leaves, n-1)
		b, _ := Branch(nil, leaves, n-1)
		Climb(nil, some(1), 3, leaves)
		Proves(nil, some(1), some(2), 3, leaves)
		if !unhurt(leaves, was) {
			t.Errorf("%d leaves: they were changed", n)
		}
		if n > 4096 {
			continue
		}
		for i := range a {
			a[i] = some(-9)
		}
		if !unhurt(leaves, was) || !slices.Equal(b, beside(was, n-1, 32)) {
			t.Errorf("%d leaves: a branch shares memory", n)
		}
	}
}

func TestMemoryOfABranchThatProves(t *testing.T) {
	was := somes(32, 0)
	branch := withRoom(was)
	root := Climb(nil, some(1), 7, was)
	if !Proves(nil, root, some(1), 7, branch) || !unhurt(branch, was) {
		t.Error("the branch was changed")
	}
}

func TestWhatAnAnswerIsMadeOfIsNoted(t *testing.T) {
	leaves := somes(7, 0)
	kept := digest.New()
	tree := Keep(kept, leaves...)
	if kept.Count() != 4 || !kept.Has(tree.Branches[1]) || !kept.Has(tree.Branches[2]) {
		t.Errorf("a tree that is kept: %d noted", kept.Count())
	}
	beside := digest.New()
	branch, _ := Branch(beside, leaves, 3)
	rooted := digest.New()
	Root(rooted, tree)
	made := digest.New()
	Of(made, leaves...)
	for level := 1; level < 32; level++ {
		if !beside.Has(branch[level]) {
			t.Errorf("a branch: level %d", level)
		}
		nought := Nought(nil, level)
		if level > 2 && !rooted.Has(nought) || !made.Has(nought) {
			t.Errorf("the nought of level %d", level)
		}
	}
}
