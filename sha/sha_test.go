package sha

import (
	"crypto/sha256"
	"encoding/binary"
	"encoding/hex"
	"math"
	"math/big"
	"strings"
	"testing"

	"pontoon/api"
)

// pattern: n bytes that don't repeat soon.
func pattern(n int) string {
	b := make([]byte, n)
	x := uint32(n + 1)
	for i := range b {
		x = x*1664525 + 1013904223
		b[i] = byte(x >> 24)
	}
	return string(b)
}

var someWords = [8]uint32{0, math.MaxUint32, 1, 0x80000000, 0x12345678, 0xdeadbeef, 7, 0xfffffffe}

// libraryBlock: what the library's SHA-256 makes of words and a block.
func libraryBlock(t *testing.T, words [8]uint32, block string) [8]uint32 {
	t.Helper()
	const magic = "sha\x03"
	in := []byte(magic)
	for _, w := range words {
		in = binary.BigEndian.AppendUint32(in, w)
	}
	in = append(in, make([]byte, 64+8)...)
	h := sha256.New()
	if err := h.(interface{ UnmarshalBinary([]byte) error }).UnmarshalBinary(in); err != nil {
		t.Fatal(err)
	}
	h.Write([]byte(block))
	out, err := h.(interface{ MarshalBinary() ([]byte, error) }).MarshalBinary()
	if err != nil {
		t.Fatal(err)
	}
	for i := range words {
		words[i] = binary.BigEndian.Uint32(out[len(magic)+4*i:])
	}
	return words
}

func blocks(words [8]uint32, text string) [8]uint32 {
	for ; len(text) > 0; text = text[64:] {
		words = Block(words, text[:64])
	}
	return words
}

func digestOf(words [8]uint32) api.Digest {
	var d api.Digest
	for i, w := range words {
		binary.BigEndian.PutUint32(d[4*i:], w)
	}
	return d
}

// padded: a rest with its padding, laid out nought by nought.
func padded(rest string, count uint64) string {
	b := append([]byte(rest), 0x80)
	for (len(b)+8)%64 != 0 {
		b = append(b, 0)
	}
	return string(binary.BigEndian.AppendUint64(b, count*8))
}

func primes(n int) []int64 {
	var list []int64
next:
	for p := int64(2); len(list) < n; p++ {
		for _, q := range list {
			if p%q == 0 {
				continue next
			}
		}
		list = append(list, p)
	}
	return list
}

// rootFraction: the first 32 bits of the fraction of a prime's root, by the greatest whole number whose power isn't above the prime, shifted.
func rootFraction(p, power int64) uint32 {
	goal := new(big.Int).Lsh(big.NewInt(p), uint(32*power))
	low, high := big.NewInt(0), new(big.Int).Lsh(big.NewInt(p), 32)
	for low.Cmp(high) < 0 {
		mid := new(big.Int).Add(low, high)
		mid.Add(mid, big.NewInt(1)).Rsh(mid, 1)
		if new(big.Int).Exp(mid, big.NewInt(power), nil).Cmp(goal) <= 0 {
			low = mid
		} else {
			high = mid.Sub(mid, big.NewInt(1))
		}
	}
	return uint32(low.Uint64())
}

func TestConstantsAreRootsOfPrimes(t *testing.T) {
	for i, p := range primes(64) {
		if got := roundWords[i]; got != rootFraction(p, 3) {
			t.Errorf("constant %d: %08x", i, got)
		}
		if i < 8 && Begin().Words[i] != rootFraction(p, 2) {
			t.Errorf("first state's word %d: %08x", i, Begin().Words[i])
		}
	}
}

func TestBlockIsTheStandards(t *testing.T) {
	texts := []string{strings.Repeat("\x00", 64), strings.Repeat("\xff", 64), padded("abc", 3)}
	for i := range 50 {
		texts = append(texts, pattern(64 + i)[i:])
	}
	words := Begin().Words
	for i, text := range texts {
		for _, w := range [][8]uint32{Begin().Words, {}, someWords, words} {
			if got, wanted := Block(w, text), libraryBlock(t, w, text); got != wanted {
				t.Fatalf("block %d of %x: %x, wanted %x", i, w, got, wanted)
			}
		}
		words = Block(words, text)
	}
}

func TestBlockOfAnotherLength(t *testing.T) {
	for _, n := range []int{0, 1, 63, 65, 127, 128, 1000} {
		if got := Block(someWords, pattern(n)); got != someWords {
			t.Errorf("block of %d bytes: %x", n, got)
		}
	}
}

func TestBegin(t *testing.T) {
	s := Begin()
	if s.Rest != "" || s.Count != 0 {
		t.Errorf("%#v", s)
	}
	s.Words[0]++
	if Begin().Words[0] == s.Words[0] {
		t.Error("one beginning's words are another's")
	}
}

func TestAdd(t *testing.T) {
	for _, had := range []int{0, 1, 63, 64, 65, 128, 200} {
		for _, more := range []int{0, 1, 62, 63, 64, 65, 127, 128, 129, 1000} {
			rest, text := pattern(had), pattern(more)
			whole := rest + text
			used := len(whole) / 64 * 64
			wanted := State{Words: blocks(someWords, whole[:used]), Rest: whole[used:], Count: 5 + uint64(more)}
			s := State{Words: someWords, Rest: rest, Count: 5}
			if got := s.Add(text); got != wanted {
				t.Errorf("%d and %d bytes: %#v, wanted %#v", had, more, got, wanted)
			}
			if s != (State{Words: someWords, Rest: rest, Count: 5}) {
				t.Errorf("%d and %d bytes: the state itself became another", had, more)
			}
		}
	}
}

func TestAddCountGoesRound(t *testing.T) {
	s := State{Words: someWords, Count: math.MaxUint64}
	if got := s.Add("abc").Count; got != 2 {
		t.Errorf("count %d, wanted 2", got)
	}
}

func TestEnd(t *testing.T) {
	counts := []uint64{0, 1, 3, 31, 32, 1 << 28, 1<<61 - 1, 1 << 61, 1<<61 + 9, 1 << 63, math.MaxUint64, 0x0102030405060708}
	for n := range 200 {
		for _, count := range counts {
			s := State{Words: someWords, Rest: pattern(n), Count: count}
			if got, wanted := s.End(), digestOf(blocks(someWords, padded(s.Rest, count))); got != wanted {
				t.Fatalf("rest of %d bytes, count %d: %x, wanted %x", n, count, got, wanted)
			}
		}
	}
}

func TestEndOfNothingYet(t *testing.T) {
	if got := (State{}).End(); got != digestOf(blocks([8]uint32{}, padded("", 0))) {
		t.Errorf("%x", got)
	}
}

func TestSumOfKnownTexts(t *testing.T) {
	known := []struct{ text, sum string }{
		{"", "e3b0c44298fc1c149afbf4c8996fb92427ae41e4649b934ca495991b7852b855"},
		{"abc", "ba7816bf8f01cfea414140de5dae2223b00361a396177a9cb410ff61f20015ad"},
		{"abcdbcdecdefdefgefghfghighijhijkijkljklmklmnlmnomnopnopq", "248d6a61d20638b8e5c026930c3e6039a33ce45964ff2167f6ecedd419db06c1"},
		{strings.Repeat("a", 1000000), "cdc76e5c9914fb9281a1c7e284d73e67f1809a48a497200e046d39ccc7112cd0"},
	}
	for _, k := range known {
		if got := Text(Sum(k.text)); got != k.sum {
			t.Errorf("%.20q: %s, wanted %s", k.text, got, k.sum)
		}
	}
	if Text(Sum()) != known[0].sum || Text(Sum("", "", "")) != known[0].sum {
		t.Error("no parts, or empty ones, aren't the empty text")
	}
}

func TestSumOfAllLengths(t *testing.T) {
	for n := range 400 {
		text := pattern(n)
		if got, wanted := Sum(text), api.Digest(sha256.Sum256([]byte(text))); got != wanted {
			t.Fatalf("%d bytes: %x, wanted %x", n, got, wanted)
		}
	}
}

func TestSumKeepsThePartsInOrder(t *testing.T) {
	parts := []string{"ab", "", "c", pattern(100), "\x00\xff"}
	kept := append([]string(nil), parts...)
	wanted := api.Digest(sha256.Sum256([]byte(strings.Join(parts, ""))))
	if got := Sum(parts...); got != wanted {
		t.Errorf("%x, wanted %x", got, wanted)
	}
	for i := range parts {
		if parts[i] != kept[i] {
			t.Errorf("part %d was changed", i)
		}
	}
	if Sum("ab", "c") == Sum("c", "ab") {
		t.Error("the order makes no difference")
	}
}

func TestPartsMakeNoDifference(t *testing.T) {
	text := pattern(200)
	one := Begin().Add(text)
	sum := Sum(text)
	for i := 0; i <= len(text); i++ {
		for j := i; j <= len(text); j += 1 + i%3 {
			if got := Begin().Add(text[:i]).Add(text[i:j]).Add(text[j:]); got != one || got.End() != sum {
				t.Fatalf("in parts at %d and %d: %#v, wanted %#v", i, j, got, one)
			}
			if got := Sum(text[:i], text[i:j], text[j:]); got != sum {
				t.Fatalf("sum in parts at %d and %d: %x, wanted %x", i, j, got, sum)
			}
		}
	}
	s := Begin()
	for i := range len(text) {
		s = s.Add(text[i : i+1])
	}
	if s != one {
		t.Errorf("byte by byte: %#v, wanted %#v", s, one)
	}
}

func TestText(t *testing.T) {
	digests := []api.Digest{{}, Sum(), Sum("abc"), {0: 0x0f, 1: 0xf0, 31: 0xff}}
	for i := range 8 {
		var d api.Digest
		for j := range d {
			d[j] = byte(32*i + j)
		}
		digests = append(digests, d)
	}
	for _, d := range digests {
		if got, wanted := Text(d), hex.EncodeToString(d[:]); got != wanted {
			t.Errorf("%s, wanted %s", got, wanted)
		}
		if got, ok := Read(Text(d)); !ok || got != d {
			t.Errorf("%x was read as %x, %t", d, got, ok)
		}
	}
}

func TestReadRefuses(t *testing.T) {
	right := Text(Sum("abc"))
	wrong := []string{"", "0", "00", right[1:], right[2:], right + "0", right + "00", right + "\n", " " + right[1:], strings.ToUpper(right), strings.Repeat("é", 32), strings.Repeat("0", 128)}
	for c := range 256 {
		if strings.IndexByte("0123456789abcdef", byte(c)) < 0 {
			for _, at := range []int{0, 1, 30, 63} {
				wrong = append(wrong, right[:at]+string([]byte{byte(c)})+right[at+1:])
			}
		}
	}
	for _, s := range wrong {
		if d, ok := Read(s); ok || d != (api.Digest{}) {
			t.Errorf("%q was read as %x, %t", s, d, ok)
		}
	}
}
