package lamport

import (
	"crypto/sha256"
	"encoding/binary"
	"math"
	"math/big"
	"slices"
	"testing"

	"pontoon/api"
	"pontoon/digest"
	"pontoon/sha"
)

// digestOf: a domain's digest of parts, by the library.
func digestOf(domain byte, parts ...[]byte) api.Digest {
	in := []byte{domain}
	for _, p := range parts {
		in = binary.BigEndian.AppendUint32(in, uint32(len(p)))
		in = append(in, p...)
	}
	return sha256.Sum256(in)
}

func secretOf(seed api.Digest, index uint32, i, b byte) api.Digest {
	return digestOf(1, seed[:], binary.BigEndian.AppendUint32(nil, index), []byte{i}, []byte{b})
}

func publicOf(secret api.Digest) api.Digest { return digestOf(2, secret[:]) }

// wordOf: of sixty-four publics.
func wordOf(list []api.Digest) api.Digest {
	var all []byte
	for _, d := range list {
		all = append(all, d[:]...)
	}
	return digestOf(3, all)
}

func keyWord(seed api.Digest, index uint32) api.Digest {
	var list []api.Digest
	for i := range byte(32) {
		list = append(list, publicOf(secretOf(seed, index, i, 0)), publicOf(secretOf(seed, index, i, 1)))
	}
	return wordOf(list)
}

// some: a digest that hangs on a number.
func some(n int) api.Digest { return digestOf(77, binary.BigEndian.AppendUint64(nil, uint64(n))) }

func somes(n, from int) []api.Digest {
	list := make([]api.Digest, n)
	for i := range list {
		list[i] = some(from + i)
	}
	return list
}

func ones() api.Digest {
	var d api.Digest
	for i := range d {
		d[i] = 255
	}
	return d
}

func flipped(d api.Digest, i int) api.Digest {
	d[i/8] ^= 128 >> (i % 8)
	return d
}

// oddNumbers: ends of numbers, and such as have the low bits of small ones.
var oddNumbers = []int{0, 1, 2, 15, 16, 31, 32, 127, 128, 255, 256, 257, 1 << 16, math.MaxInt32, math.MaxUint32, 1 << 32, 1<<32 + 2, math.MaxInt, -1, -2, -256, math.MinInt32, math.MinInt, math.MinInt + 1}

var someDigests = []api.Digest{{}, ones(), {0x80}, {0, 0, 0, 1}, {0, 0, 0, 0, 255}, {0xaa, 0x55, 0xf0, 0x0f}, some(1), some(2)}

func TestBit(t *testing.T) {
	for _, d := range someDigests {
		// The digest as one number: its highest bit is the one at place 0.
		n := new(big.Int).SetBytes(d[:])
		for i := range 256 {
			if got := Bit(d, i); got != int(n.Bit(255-i)) {
				t.Errorf("%x at %d: %d", d, i, got)
			}
		}
	}
	for i := range 256 {
		if Bit(flipped(api.Digest{}, i), i) != 1 || Bit(flipped(ones(), i), i) != 0 {
			t.Errorf("at %d", i)
		}
	}
	for _, i := range []int{-1, -7, -8, -256, 256, 257, 263, 1 << 32, math.MaxInt, math.MinInt} {
		if got := Bit(ones(), i); got != 0 {
			t.Errorf("at %d: %d", i, got)
		}
	}
}

func TestKnownKey(t *testing.T) {
	// Made by another program.
	if got := sha.Text(Secret(nil, api.Digest{1}, 2, 0, 1)); got != "9b11fec9eaee255f9b682b0e92ebb53a7c4add67707cd29c3c06ce61c0bbab68" {
		t.Error("secret:", got)
	}
	if got := sha.Text(Word(nil, api.Digest{1}, 2)); got != "0b88bb07f8c526c9d3437864b0a381e8a0c8e8e342df34a6f6f05c09471cbfb7" {
		t.Error("word:", got)
	}
}

func TestSecret(t *testing.T) {
	for _, seed := range []api.Digest{{}, {1}, some(3)} {
		for _, n := range oddNumbers {
			for _, c := range [][3]int{{n, 0, 0}, {n, 31, 1}, {0, n, 0}, {7, n, 1}, {0, 0, n}, {7, 5, n}, {n, n, n}} {
				want := secretOf(seed, uint32(c[0]), byte(c[1]), byte(c[2]))
				for _, l := range []*digest.Log{nil, digest.New()} {
					if got := Secret(l, seed, c[0], c[1], c[2]); got != want {
						t.Errorf("%v: %x", c, got)
					}
				}
			}
		}
	}
}

func TestSecretsAreUnlike(t *testing.T) {
	seen := map[api.Digest]bool{}
	n := 0
	for _, seed := range []api.Digest{{}, {1}, {0, 1}} {
		for index := range 20 {
			for i := range 32 {
				for b := range 2 {
					seen[Secret(nil, seed, index, i, b)] = true
					n++
				}
			}
		}
	}
	if len(seen) != n {
		t.Errorf("%d unlike ones of %d", len(seen), n)
	}
}

func TestPublic(t *testing.T) {
	for _, secret := range someDigests {
		for _, l := range []*digest.Log{nil, digest.New()} {
			if got := Public(l, secret); got != publicOf(secret) {
				t.Errorf("%x: %x", secret, got)
			}
		}
	}
}

func TestWord(t *testing.T) {
	for _, seed := range []api.Digest{{}, {1}, some(3)} {
		for _, index := range oddNumbers {
			want := keyWord(seed, uint32(index))
			for _, l := range []*digest.Log{nil, digest.New()} {
				if got := Word(l, seed, index); got != want {
					t.Errorf("%x, %d: %x", seed, index, got)
				}
			}
		}
	}
}

func TestSign(t *testing.T) {
	for _, d := range someDigests {
		for _, index := range oddNumbers {
			seed := some(index)
			parts, others := Sign(nil, seed, index, d)
			if len(parts) != 32 || len(others) != 32 {
				t.Fatalf("%d parts, %d others", len(parts), len(others))
			}
			for i := range 32 {
				b := d[i/8] >> (7 - i%8) & 1
				if parts[i] != secretOf(seed, uint32(index), byte(i), b) {
					t.Errorf("%x, %d: part %d", d, index, i)
				}
				if others[i] != publicOf(secretOf(seed, uint32(index), byte(i), 1-b)) {
					t.Errorf("%x, %d: other %d", d, index, i)
				}
			}
		}
	}
}

func TestOpened(t *testing.T) {
	for n, d := range someDigests {
		parts, others := somes(32, 100*n), somes(32, 100*n+50)
		var list []api.Digest
		for i := range 32 {
			if d[i/8]>>(7-i%8)&1 == 0 {
				list = append(list, publicOf(parts[i]), others[i])
			} else {
				list = append(list, others[i], publicOf(parts[i]))
			}
		}
		for _, l := range []*digest.Log{nil, digest.New()} {
			if got, ok := Opened(l, d, parts, others); !ok || got != wordOf(list) {
				t.Errorf("%x: %x, %v", d, got, ok)
			}
		}
	}
}

func TestOpenedOfOtherCounts(t *testing.T) {
	for _, p := range []int{0, 1, 31, 32, 33, 64, 1000} {
		for _, o := range []int{0, 1, 31, 32, 33, 64, 1000} {
			l := digest.New()
			word, ok := Opened(l, some(1), somes(p, 0), somes(o, 2000))
			if p == 32 && o == 32 {
				if !ok {
					t.Error("thirty-two of each aren't opened")
				}
				continue
			}
			if ok || word != (api.Digest{}) || l.Count() != 0 {
				t.Errorf("%d parts, %d others: %x, %v, %d noted", p, o, word, ok, l.Count())
			}
		}
	}
	if word, ok := Opened(nil, api.Digest{}, nil, nil); ok || word != (api.Digest{}) {
		t.Error("nil lists are opened")
	}
}

func TestSignedIsOpened(t *testing.T) {
	for n, d := range someDigests {
		for _, index := range oddNumbers {
			seed := some(n)
			l := digest.New()
			parts, others := Sign(l, seed, index, d)
			if word, ok := Opened(l, d, parts, others); !ok || word != Word(l, seed, index) {
				t.Errorf("%x, %d: %x, %v", d, index, word, ok)
			}
		}
	}
}

func TestAnotherDigestIsntOpened(t *testing.T) {
	seed := some(5)
	for _, d := range someDigests {
		l := digest.New()
		word := Word(l, seed, 3)
		parts, others := Sign(l, seed, 3, d)
		for i := range 256 {
			// The bits that aren't told make no difference.
			got, ok := Opened(l, flipped(d, i), parts, others)
			if !ok || (got == word) != (i >= 32) {
				t.Errorf("%x, turned at %d: %x, %v", d, i, got, ok)
			}
		}
		for n := range 50 {
			got, ok := Opened(l, some(1000+n), parts, others)
			if !ok || got == word {
				t.Errorf("%x, another one %d: %x, %v", d, n, got, ok)
			}
		}
		if l.Clash() {
			t.Error("a clash")
		}
	}
}

func TestTurnedSignatureIsntOpened(t *testing.T) {
	seed, d := some(5), some(6)
	word := Word(nil, seed, 0)
	parts, others := Sign(nil, seed, 0, d)
	for i := range 32 {
		for _, list := range [][]api.Digest{parts, others} {
			list[i][i] ^= 1
			if got, ok := Opened(nil, d, parts, others); !ok || got == word {
				t.Errorf("turned at %d: %x, %v", i, got, ok)
			}
			list[i][i] ^= 1
		}
	}
	if got, _ := Opened(nil, d, others, parts); got == word {
		t.Error("the halves the other way round are opened")
	}
	slices.Reverse(parts)
	if got, _ := Opened(nil, d, parts, others); got == word {
		t.Error("parts out of order are opened")
	}
}

func TestOneKeyIsntAnother(t *testing.T) {
	d := some(6)
	parts, others := Sign(nil, some(5), 4, d)
	word, _ := Opened(nil, d, parts, others)
	if word == Word(nil, some(5), 5) || word == Word(nil, some(4), 4) {
		t.Error("opened to another key's word")
	}
}

func TestAllIsNoted(t *testing.T) {
	seed, d := some(5), some(6)
	l := digest.New()
	word := Word(l, seed, 1)
	if l.Count() != 32*2*2+1 || !l.Has(word) {
		t.Error("a word:", l.Count())
	}
	for i := range byte(32) {
		for b := range byte(2) {
			secret := secretOf(seed, 1, i, b)
			if !l.Has(secret) || !l.Has(publicOf(secret)) {
				t.Errorf("at %d, %d: not noted", i, b)
			}
		}
	}
	// What the word was made of is all that signing and opening need.
	parts, others := Sign(l, seed, 1, d)
	Opened(l, d, parts, others)
	if l.Count() != 32*2*2+1 {
		t.Error("signed and opened:", l.Count())
	}
	l = digest.New()
	Opened(l, d, parts, others)
	if l.Count() != 32+1 || !l.Has(word) || !l.Has(publicOf(parts[31])) {
		t.Error("opened:", l.Count())
	}
	l = digest.New()
	Sign(l, seed, 1, d)
	for i := range parts {
		if !l.Has(parts[i]) || !l.Has(others[i]) {
			t.Errorf("signed, at %d: not noted", i)
		}
	}
}

func TestListsArentChanged(t *testing.T) {
	parts, others := somes(40, 0), somes(40, 100)
	Opened(digest.New(), some(1), parts[:32], others[:32])
	if !slices.Equal(parts, somes(40, 0)) || !slices.Equal(others, somes(40, 100)) {
		t.Error("what was handed in is changed")
	}
}

func TestAnswersAreApart(t *testing.T) {
	seed, d := some(5), some(6)
	parts, others := Sign(nil, seed, 0, d)
	again, others2 := Sign(nil, seed, 0, d)
	for i := range parts {
		parts[i] = api.Digest{}
	}
	_ = append(parts, api.Digest{9})
	if third, _ := Sign(nil, seed, 0, d); !slices.Equal(again, third) || !slices.Equal(others, others2) {
		t.Error("two answers share memory")
	}
}
