package amount

import (
	"math"
	"math/big"
	"math/rand"
	"strconv"
	"strings"
	"testing"

	"pontoon/api"
)

// edges: numbers at the ends, and about the powers of two.
func edges() []uint64 {
	list := []uint64{0, 1, 2, 3, 7, 10, 100, math.MaxUint64, math.MaxUint64 - 1, math.MaxUint64 - 2, math.MaxUint64 / 3}
	for _, shift := range []int{8, 31, 32, 33, 62, 63} {
		list = append(list, 1<<shift-1, 1<<shift, 1<<shift+1)
	}
	r := rand.New(rand.NewSource(8))
	for range 8 {
		list = append(list, r.Uint64(), r.Uint64()>>(r.Intn(64)))
	}
	return list
}

func wides() []Wide {
	var list []Wide
	few := []uint64{0, 1, 2, 1<<63 - 1, 1 << 63, math.MaxUint64 - 1, math.MaxUint64, 12345678901234567890}
	for _, high := range few {
		for _, low := range few {
			list = append(list, Wide{High: high, Low: low})
		}
	}
	return list
}

func plain(n uint64) *big.Int { return new(big.Int).SetUint64(n) }

func great(w Wide) *big.Int {
	n := plain(w.High)
	return n.Add(n.Lsh(n, 64), plain(w.Low))
}

func TestAdd(t *testing.T) {
	for _, a := range edges() {
		for _, b := range edges() {
			sum := plain(a)
			sum.Add(sum, plain(b))
			got, e := Add(a, b)
			if sum.IsUint64() && (e != api.OK || got != sum.Uint64()) {
				t.Errorf("%d and %d: %d, %v", a, b, got, e)
			}
			if !sum.IsUint64() && (e != api.ErrOver || got != 0) {
				t.Errorf("%d and %d: %d, %v", a, b, got, e)
			}
		}
	}
}

func TestSub(t *testing.T) {
	for _, a := range edges() {
		for _, b := range edges() {
			got, e := Sub(a, b)
			if a >= b && (e != api.OK || !equal(new(big.Int).Sub(plain(a), plain(b)), plain(got))) {
				t.Errorf("%d less %d: %d, %v", a, b, got, e)
			}
			if a < b && (e != api.ErrUnder || got != 0) {
				t.Errorf("%d less %d: %d, %v", a, b, got, e)
			}
		}
	}
}

func equal(a, b *big.Int) bool { return a.Cmp(b) == 0 }

func TestEndsOfAddAndSub(t *testing.T) {
	if n, e := Add(math.MaxUint64, 0); n != math.MaxUint64 || e != api.OK {
		t.Error(n, e)
	}
	if n, e := Add(math.MaxUint64, 1); n != 0 || e != api.ErrOver {
		t.Error(n, e)
	}
	if n, e := Add(1<<63, 1<<63); n != 0 || e != api.ErrOver {
		t.Error(n, e)
	}
	if n, e := Sub(0, 1); n != 0 || e != api.ErrUnder {
		t.Error(n, e)
	}
	if n, e := Sub(5, 5); n != 0 || e != api.OK {
		t.Error(n, e)
	}
}

func TestSplit(t *testing.T) {
	for _, n := range edges() {
		for _, part := range edges() {
			for _, whole := range edges() {
				share, rest := Split(n, part, whole)
				if whole == 0 || part >= whole {
					if share != n || rest != 0 {
						t.Errorf("%d, %d of %d: %d, %d", n, part, whole, share, rest)
					}
					continue
				}
				want := plain(n)
				want.Mul(want, plain(part)).Quo(want, plain(whole))
				if !equal(want, plain(share)) || rest != n-share {
					t.Errorf("%d, %d of %d: %d, %d", n, part, whole, share, rest)
				}
			}
		}
	}
}

func TestSplitIsNTogether(t *testing.T) {
	for _, n := range edges() {
		for _, part := range edges() {
			for _, whole := range edges() {
				share, rest := Split(n, part, whole)
				if sum, e := Add(share, rest); e != api.OK || sum != n {
					t.Errorf("%d, %d of %d: %d, %d", n, part, whole, share, rest)
				}
			}
		}
	}
}

func TestSplitExamples(t *testing.T) {
	for _, c := range []struct{ n, part, whole, share, rest uint64 }{
		{100, 1, 3, 33, 67},
		{100, 2, 3, 66, 34},
		{100, 0, 3, 0, 100},
		{100, 3, 3, 100, 0},
		{100, 4, 3, 100, 0},
		{100, 0, 0, 100, 0},
		{100, 1, 0, 100, 0},
		{0, 1, 2, 0, 0},
		{1, 1, 2, 0, 1},
		{math.MaxUint64, 1, 2, 1<<63 - 1, 1 << 63},
		{math.MaxUint64, math.MaxUint64 - 1, math.MaxUint64, math.MaxUint64 - 1, 1},
		{math.MaxUint64, math.MaxUint64, math.MaxUint64, math.MaxUint64, 0},
	} {
		if share, rest := Split(c.n, c.part, c.whole); share != c.share || rest != c.rest {
			t.Errorf("%d, %d of %d: %d, %d", c.n, c.part, c.whole, share, rest)
		}
	}
}

func TestSum(t *testing.T) {
	all := edges()
	want := new(big.Int)
	for n := range all {
		if got := Sum(all[:n]...); !equal(great(got), want) {
			t.Errorf("%d of them: %v", n, got)
		}
		want.Add(want, plain(all[n]))
	}
	if Sum() != (Wide{}) || Sum(0) != (Wide{}) || Sum(5) != (Wide{Low: 5}) {
		t.Error("few of them")
	}
	many := make([]uint64, 1000)
	for i := range many {
		many[i] = math.MaxUint64
	}
	if got := Sum(many...); got != (Wide{High: 999, Low: math.MaxUint64 - 999}) {
		t.Error(got)
	}
	for _, n := range many {
		if n != math.MaxUint64 {
			t.Fatal("they were changed")
		}
	}
}

func TestLess(t *testing.T) {
	for _, a := range wides() {
		for _, b := range wides() {
			if got := Less(a, b); got != (great(a).Cmp(great(b)) < 0) {
				t.Errorf("%v, %v: %v", a, b, got)
			}
		}
	}
}

func TestWideAdd(t *testing.T) {
	for _, a := range wides() {
		for _, b := range wides() {
			sum := new(big.Int).Add(great(a), great(b))
			got, e := a.Add(b)
			if sum.BitLen() <= 128 && (e != api.OK || !equal(great(got), sum)) {
				t.Errorf("%v and %v: %v, %v", a, b, got, e)
			}
			if sum.BitLen() > 128 && (e != api.ErrOver || got != Wide{}) {
				t.Errorf("%v and %v: %v, %v", a, b, got, e)
			}
		}
	}
}

func TestWideSub(t *testing.T) {
	for _, a := range wides() {
		for _, b := range wides() {
			left := new(big.Int).Sub(great(a), great(b))
			got, e := a.Sub(b)
			if left.Sign() >= 0 && (e != api.OK || !equal(great(got), left)) {
				t.Errorf("%v less %v: %v, %v", a, b, got, e)
			}
			if left.Sign() < 0 && (e != api.ErrUnder || got != Wide{}) {
				t.Errorf("%v less %v: %v, %v", a, b, got, e)
			}
		}
	}
}

func TestWhatIsAddedIsTakenAwayAgain(t *testing.T) {
	for _, a := range edges() {
		for _, b := range edges() {
			sum, e := Add(a, b)
			if e != api.OK {
				continue
			}
			if back, e := Sub(sum, b); e != api.OK || back != a {
				t.Errorf("%d and %d: %d, %v", a, b, back, e)
			}
		}
	}
	for _, a := range wides() {
		for _, b := range wides() {
			sum, e := a.Add(b)
			if e != api.OK {
				continue
			}
			if back, e := sum.Sub(b); e != api.OK || back != a {
				t.Errorf("%v and %v: %v, %v", a, b, back, e)
			}
		}
	}
}

func TestText(t *testing.T) {
	for _, n := range edges() {
		s := Text(n)
		if s != plain(n).String() {
			t.Errorf("%d: %q", n, s)
		}
		if back, ok := Read(s); !ok || back != n {
			t.Errorf("%q: %d, %v", s, back, ok)
		}
	}
	if Text(0) != "0" || Text(math.MaxUint64) != "18446744073709551615" {
		t.Error("the ends")
	}
}

func TestRead(t *testing.T) {
	for _, s := range []string{"0", "1", "9", "10", "1000", "9223372036854775808", "18446744073709551615"} {
		if n, ok := Read(s); !ok || Text(n) != s {
			t.Errorf("%q: %d, %v", s, n, ok)
		}
	}
	for _, s := range []string{
		"", " ", "00", "01", "000", "+1", "-1", "-0", "+0", " 1", "1 ", "1\n", "1\x00", "\x001", "1_000", "_1", "1.0", "1e3", "0x10", "0b1", "0o7",
		"a", "1a", "a1", "\u0661", "\uff11", "\xff", "1\xff", "18446744073709551616", "18446744073709551620", "28446744073709551615",
		"99999999999999999999", "100000000000000000000", "018446744073709551615", "36893488147419103232", strings.Repeat("9", 1000), strings.Repeat("0", 1000), strings.Repeat("0", 100) + "1",
	} {
		if n, ok := Read(s); ok || n != 0 {
			t.Errorf("%q: %d, %v", s, n, ok)
		}
	}
}

func TestReadOfEachByte(t *testing.T) {
	for b := range 256 {
		n, ok := Read(string([]byte{byte(b)}))
		if isDigit := '0' <= b && b <= '9'; ok != isDigit || ok && strconv.Itoa(int(n)) != string(rune(b)) {
			t.Errorf("byte %d: %d, %v", b, n, ok)
		}
	}
}
