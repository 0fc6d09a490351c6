package ledger

import (
	"math"
	"math/big"
	"math/rand"
	"reflect"
	"slices"
	"strconv"
	"testing"

	"pontoon/amount"
	"pontoon/api"
	"pontoon/name"
)

const most = math.MaxUint64

// deed: something that is done to a ledger.
type deed struct {
	told string
	do   func(api.Ledger) (api.Ledger, api.Errno)
}

var numbers = []uint64{0, 1, 2, 7, 40, 41, 1000000, 1000001, 1<<40 - 1, 1 << 40, 1<<40 + 1, 1 << 63, most - 7, most - 1, most}

var whos = []string{"", "ada", "bob", "zoe", "αβ", "Ada", "1a", "a b", "\xff", "ada\x00", "treasury", "abcdefghijkl", "abcdefghijklm"}

// deeds: all calls that answer a ledger, at all names and numbers above.
func deeds() []deed {
	list := []deed{{"twin", func(l api.Ledger) (api.Ledger, api.Errno) { return Twin(l), api.OK }}}
	add := func(told string, do func(api.Ledger) (api.Ledger, api.Errno)) { list = append(list, deed{told, do}) }
	for _, n := range numbers {
		digits := strconv.FormatUint(n, 10)
		add("spend "+digits, func(l api.Ledger) (api.Ledger, api.Errno) { return Spend(l, n) })
		add("tick "+digits, func(l api.Ledger) (api.Ledger, api.Errno) { return Tick(l, n) })
		add("note "+digits, func(l api.Ledger) (api.Ledger, api.Errno) { return Note(l, event(n)), api.OK })
		for _, who := range whos {
			told := strconv.Quote(who) + " " + digits
			add("open "+told, func(l api.Ledger) (api.Ledger, api.Errno) { return Open(l, who, api.Digest{1}, n) })
			add("give "+told, func(l api.Ledger) (api.Ledger, api.Errno) { return Give(l, who, n) })
			add("take "+told, func(l api.Ledger) (api.Ledger, api.Errno) { return Take(l, who, n) })
			add("bump "+told, func(l api.Ledger) (api.Ledger, api.Errno) { return Bump(l, who, n) })
			for _, to := range whos[:6] {
				add("move to "+strconv.Quote(to)+" "+told, func(l api.Ledger) (api.Ledger, api.Errno) { return Move(l, who, to, n) })
			}
		}
	}
	return list
}

func event(n uint64) api.Event {
	return api.Event{Kind: api.Paid, Name: "ada", Number: n, Digest: api.Digest{byte(n)}}
}

func events(n int) []api.Event {
	list := make([]api.Event, n)
	for i := range list {
		list[i] = event(uint64(i))
	}
	return list
}

// crowd: so many accounts, in their order.
func crowd(n int) []api.Account {
	list := make([]api.Account, n)
	for i := range list {
		list[i] = api.Account{Name: "m" + string(rune('a'+i/26)) + string(rune('a'+i%26)), Coins: uint64(i)}
	}
	return list
}

func some() api.Ledger {
	return api.Ledger{Height: 3, Time: 9, Gas: 2, Events: events(3), Accounts: []api.Account{
		{Name: "ada", Key: api.Digest{1}, Nonce: 2, Coins: 7},
		{Name: "bob", Key: api.Digest{2}, Nonce: 7, Coins: 10},
		{Name: "αβ", Key: api.Digest{3}, Nonce: 0, Coins: 0},
	}}
}

// rights: ledgers that may be.
func rights() []api.Ledger {
	return []api.Ledger{
		{},
		{Accounts: []api.Account{}, Events: []api.Event{}},
		some(),
		{Gas: api.MaxGas, Time: api.MaxTime, Height: most},
		{Gas: api.MaxGas - 1, Time: api.MaxTime - 1, Height: most - 1},
		{Accounts: crowd(api.MaxAccounts), Events: events(api.MaxEvents)},
		{Accounts: crowd(api.MaxAccounts - 1), Events: events(api.MaxEvents - 1)},
		{Accounts: []api.Account{{Name: "ada", Coins: most, Nonce: most}, {Name: "bob", Coins: most, Nonce: most - 1}, {Name: "zoe", Coins: most}}},
	}
}

// wrongs: ledgers that may not be.
func wrongs() []api.Ledger {
	named := func(names ...string) api.Ledger {
		var l api.Ledger
		for i, n := range names {
			l.Accounts = append(l.Accounts, api.Account{Name: n, Nonce: uint64(i), Coins: uint64(10 - i)})
		}
		return l
	}
	return []api.Ledger{
		{Gas: api.MaxGas + 1},
		{Gas: most},
		{Time: api.MaxTime + 1},
		{Time: most, Gas: 1},
		{Accounts: crowd(api.MaxAccounts + 1)},
		{Accounts: crowd(api.MaxAccounts + 36)},
		{Events: events(api.MaxEvents + 1)},
		{Events: events(api.MaxEvents + 900)},
		named(""), named("Ada"), named("ada", "ada"), named("ada", "bob", "ada"), named("bob", "ada"), named("ada", "zoe", "bob"),
		named("ada", "αβ", "bob"), named("\xff"), named("1a"), named("a b"), named("ada", "ada\x00"), named("abcdefghijklm"),
	}
}

// keep: a ledger with room behind its lists, and a look whether all of that is as it was.
func keep(l api.Ledger) (api.Ledger, func() bool) {
	accounts := append(slices.Clone(l.Accounts), api.Account{Name: "room"}, api.Account{Name: "room"})
	happened := append(slices.Clone(l.Events), event(77), event(78))
	accountsWere, happenedWere := slices.Clone(accounts), slices.Clone(happened)
	l.Accounts, l.Events = accounts[:len(l.Accounts)], happened[:len(l.Events)]
	return l, func() bool {
		return slices.Equal(accounts, accountsWere) && slices.Equal(happened, happenedWere)
	}
}

// scribble: writes all over a ledger's lists, the room behind them, too.
func scribble(l api.Ledger) {
	accounts, happened := l.Accounts[:cap(l.Accounts)], l.Events[:cap(l.Events)]
	for i := range accounts {
		accounts[i] = api.Account{Name: "scribble"}
	}
	for i := range happened {
		happened[i] = event(99)
	}
}

// same: but for whether a list without elements is nil.
func same(a, b api.Ledger) bool {
	return a.Height == b.Height && a.Time == b.Time && a.Gas == b.Gas &&
		slices.Equal(a.Accounts, b.Accounts) && slices.Equal(a.Events, b.Events)
}

func expect(t *testing.T, told string, got api.Ledger, e api.Errno, want api.Ledger, wanted api.Errno) {
	t.Helper()
	if e != wanted {
		t.Errorf("%s: %v, wanted %v", told, e, wanted)
	}
	if !same(got, want) {
		t.Errorf("%s: %+v, wanted %+v", told, got, want)
	}
}

func account(t *testing.T, l api.Ledger, who string) api.Account {
	t.Helper()
	a, ok := Find(l, who)
	if !ok {
		t.Fatalf("there is no %q", who)
	}
	return a
}

func TestFind(t *testing.T) {
	l := some()
	for _, a := range l.Accounts {
		if got, ok := Find(l, a.Name); !ok || got != a {
			t.Errorf("%q: %v, %v", a.Name, got, ok)
		}
	}
	for _, who := range []string{"", "zoe", "Ada", "ada ", "ad", "\xff"} {
		if got, ok := Find(l, who); ok || got != (api.Account{}) {
			t.Errorf("%q: %v, %v", who, got, ok)
		}
	}
	twice := api.Ledger{Accounts: []api.Account{{Name: "zoe"}, {Name: "", Coins: 3}, {Name: "ada", Coins: 1}, {Name: "ada", Coins: 2}}}
	if a := account(t, twice, "ada"); a.Coins != 1 {
		t.Error("not the first one", a)
	}
	if a := account(t, twice, ""); a.Coins != 3 {
		t.Error("not the one without a name", a)
	}
}

func TestOpen(t *testing.T) {
	key := api.Digest{5, 6}
	l := api.Ledger{Height: 1, Time: 2, Gas: 3, Events: events(2)}
	for _, who := range []string{"m", "zoe", "ada", "αβ", "ma", "a", "ω", "m1"} {
		m, e := Open(l, who, key, 9)
		if e != api.OK || len(m.Accounts) != len(l.Accounts)+1 || !Right(m) {
			t.Fatalf("%q: %v, %v", who, m, e)
		}
		if a := account(t, m, who); a != (api.Account{Name: who, Key: key, Coins: 9}) {
			t.Errorf("%q: %v", who, a)
		}
		l = m
	}
	var order []string
	for _, a := range l.Accounts {
		order = append(order, a.Name)
	}
	if !slices.Equal(order, []string{"a", "ada", "m", "m1", "ma", "zoe", "αβ", "ω"}) {
		t.Error(order)
	}
	if l.Height != 1 || l.Time != 2 || l.Gas != 3 || !slices.Equal(l.Events, events(2)) {
		t.Error("all else was changed", l)
	}
}

func TestOpenErrors(t *testing.T) {
	for _, who := range []string{"", "Ada", "1a", "a b", "\xff", "abcdefghijklm"} {
		m, e := Open(some(), who, api.Digest{}, 1)
		expect(t, who, m, e, some(), api.ErrName)
	}
	m, e := Open(some(), "bob", api.Digest{}, 1)
	expect(t, "there", m, e, some(), api.ErrThere)

	almost := api.Ledger{Accounts: crowd(api.MaxAccounts - 1)}
	full, e := Open(almost, "zoe", api.Digest{}, 1)
	if e != api.OK || len(full.Accounts) != 64 {
		t.Fatal("the last one", e)
	}
	for _, l := range []api.Ledger{full, {Accounts: crowd(65)}, {Accounts: crowd(100)}} {
		m, e = Open(l, "ada", api.Digest{}, 1)
		expect(t, "many", m, e, l, api.ErrMany)
		m, e = Open(l, l.Accounts[3].Name, api.Digest{}, 1)
		expect(t, "many, and there", m, e, l, api.ErrThere)
		m, e = Open(l, "Ada", api.Digest{}, 1)
		expect(t, "many, and no name", m, e, l, api.ErrName)
	}
	odd := api.Ledger{Accounts: []api.Account{{Name: "Ada"}}}
	m, e = Open(odd, "Ada", api.Digest{}, 1)
	expect(t, "there, and no name", m, e, odd, api.ErrName)
}

// TestOpenOutOfOrder: ahead of the first one whose name stands behind it, whatever stands there else.
func TestOpenOutOfOrder(t *testing.T) {
	l := api.Ledger{Accounts: []api.Account{{Name: "c"}, {Name: "z"}, {Name: "a"}, {Name: "z", Coins: 1}}}
	for who, at := range map[string]int{"b": 0, "d": 1, "zz": 4, "zz1": 4} {
		m, e := Open(l, who, api.Digest{}, 0)
		if e != api.OK || m.Accounts[at].Name != who || !slices.Equal(slices.Delete(m.Accounts, at, at+1), l.Accounts) {
			t.Errorf("%q: %v, %v", who, m, e)
		}
	}
}

func TestGiveAndTake(t *testing.T) {
	l := some()
	want := some()
	want.Accounts[1].Coins = 14
	m, e := Give(l, "bob", 4)
	expect(t, "give", m, e, want, api.OK)
	want.Accounts[1].Coins = 0
	m, e = Take(m, "bob", 14)
	expect(t, "take all", m, e, want, api.OK)
	m, e = Take(m, "bob", 1)
	expect(t, "take of none", m, e, want, api.ErrUnder)
	m, e = Take(l, "bob", 11)
	expect(t, "take too much", m, e, some(), api.ErrUnder)
	want.Accounts[1].Coins = most
	m, e = Give(l, "bob", most-10)
	expect(t, "give up to the end", m, e, want, api.OK)
	m, e = Give(l, "bob", most-9)
	expect(t, "give beyond the end", m, e, some(), api.ErrOver)
	m, e = Give(l, "bob", most)
	expect(t, "give far beyond the end", m, e, some(), api.ErrOver)
	for _, who := range []string{"", "zoe", "Bob", "\xff"} {
		m, e = Give(l, who, most)
		expect(t, "give to "+who, m, e, some(), api.ErrNone)
		m, e = Take(l, who, most)
		expect(t, "take from "+who, m, e, some(), api.ErrNone)
	}
	m, e = Open(api.Ledger{}, "a", api.Digest{}, 0)
	opened := Twin(m)
	m, e = Take(m, "a", 1)
	expect(t, "the chapter's example", m, e, opened, api.ErrUnder)
}

// TestOfTwoTheFirst: what is done to a name that stands there twice is done to its first account.
func TestOfTwoTheFirst(t *testing.T) {
	l := api.Ledger{Accounts: []api.Account{{Name: "zoe", Coins: 1}, {Name: "", Coins: 2}, {Name: "", Coins: most, Nonce: 5}, {Name: "zoe", Nonce: 9, Coins: most}}}
	want := Twin(l)
	want.Accounts[1].Coins = 5
	m, e := Give(l, "", 3)
	expect(t, "give", m, e, want, api.OK)
	want.Accounts[1].Coins = 0
	m, e = Take(l, "", 2)
	expect(t, "take", m, e, want, api.OK)
	m, e = Take(l, "", 3)
	expect(t, "take too much", m, e, l, api.ErrUnder)
	want.Accounts[0].Coins = 3
	m, e = Move(l, "", "zoe", 2)
	expect(t, "move", m, e, want, api.OK)
	want = Twin(l)
	want.Accounts[0].Nonce = 1
	m, e = Bump(l, "zoe", 0)
	expect(t, "bump", m, e, want, api.OK)
}

func TestMove(t *testing.T) {
	l := some()
	want := some()
	want.Accounts[0].Coins, want.Accounts[1].Coins = 17, 0
	m, e := Move(l, "bob", "ada", 10)
	expect(t, "all of it", m, e, want, api.OK)
	m, e = Move(l, "bob", "bob", 10)
	expect(t, "to oneself", m, e, some(), api.OK)
	m, e = Move(l, "bob", "bob", 11)
	expect(t, "too much to oneself", m, e, some(), api.ErrUnder)
	m, e = Move(l, "bob", "ada", 11)
	expect(t, "too much", m, e, some(), api.ErrUnder)
	m, e = Move(l, "bob", "zoe", 4)
	expect(t, "to none", m, e, some(), api.ErrNone)
	m, e = Move(l, "bob", "zoe", 11)
	expect(t, "too much, to none", m, e, some(), api.ErrUnder)
	m, e = Move(l, "zoe", "ada", 0)
	expect(t, "from none", m, e, some(), api.ErrNone)
	m, e = Move(l, "bob", "ada", 0)
	expect(t, "nothing", m, e, some(), api.OK)

	rich := some()
	rich.Accounts[0].Coins = most - 3
	want = Twin(rich)
	want.Accounts[0].Coins, want.Accounts[1].Coins = most, 7
	m, e = Move(rich, "bob", "ada", 3)
	expect(t, "up to the end", m, e, want, api.OK)
	m, e = Move(rich, "bob", "ada", 4)
	expect(t, "beyond the end", m, e, rich, api.ErrOver)
	m, e = Move(rich, "ada", "ada", most-3)
	expect(t, "to oneself, behind the Take", m, e, rich, api.OK)
}

func TestBump(t *testing.T) {
	l := some()
	want := some()
	want.Accounts[0].Nonce = 3
	m, e := Bump(l, "ada", 2)
	expect(t, "bump", m, e, want, api.OK)
	for _, nonce := range []uint64{0, 1, 3, most} {
		m, e = Bump(l, "ada", nonce)
		expect(t, "another nonce", m, e, some(), api.ErrNonce)
	}
	m, e = Bump(l, "zoe", 0)
	expect(t, "none", m, e, some(), api.ErrNone)
	l.Accounts[0].Nonce = most - 1
	want.Accounts[0].Nonce = most
	m, e = Bump(l, "ada", most-1)
	expect(t, "up to the end", m, e, want, api.OK)
	m, e = Bump(want, "ada", most)
	expect(t, "beyond the end", m, e, want, api.ErrOver)
	m, e = Bump(want, "ada", 0)
	expect(t, "another one at the end", m, e, want, api.ErrNonce)
}

func TestSpend(t *testing.T) {
	for _, gas := range []uint64{0, 1, 2, 39, 40, 41, 100, most - 40, most - 1, most} {
		for _, weight := range []uint64{0, 1, 2, 38, 39, 40, 41, most - 40, most - 1, most} {
			l := some()
			l.Gas = gas
			want, wanted := Twin(l), api.ErrGas
			sum := new(big.Int).SetUint64(gas)
			sum.Add(sum, new(big.Int).SetUint64(weight))
			if sum.Cmp(big.NewInt(40)) <= 0 {
				want.Gas, wanted = sum.Uint64(), api.OK
			}
			m, e := Spend(l, weight)
			expect(t, "spend", m, e, want, wanted)
		}
	}
}

func TestTick(t *testing.T) {
	for _, time := range []uint64{0, 1, 1<<40 - 1000001, 1<<40 - 1000000, 1<<40 - 1, 1 << 40, 1<<40 + 1, most - 1000000, most} {
		for _, by := range []uint64{0, 1, 999999, 1000000, 1000001, most} {
			for _, height := range []uint64{0, 7, most - 1, most} {
				l := some()
				l.Time, l.Height = time, height
				want, wanted := Twin(l), api.OK
				switch sum := new(big.Int).Add(new(big.Int).SetUint64(time), new(big.Int).SetUint64(by)); {
				case by > 1000000:
					wanted = api.ErrArg
				case sum.Cmp(big.NewInt(1<<40)) > 0 || height == most:
					wanted = api.ErrOver
				default:
					want.Time, want.Height, want.Gas = sum.Uint64(), height+1, 0
				}
				m, e := Tick(l, by)
				expect(t, "tick", m, e, want, wanted)
			}
		}
	}
}

func TestNote(t *testing.T) {
	for _, n := range []int{0, 1, 5, 4094, 4095, 4096, 4097, 5000, 9000} {
		l := some()
		l.Events = events(n)
		want := Twin(l)
		all := append(events(n), event(uint64(n)))
		want.Events = all[max(0, len(all)-4096):]
		if got := Note(l, event(uint64(n))); !same(got, want) {
			t.Errorf("behind %d: %d of them", n, len(got.Events))
		}
	}
	odd := api.Event{Kind: -5, Name: "\xff", Number: most, Digest: api.Digest{9}}
	if got := Note(some(), odd); len(got.Events) != 4 || got.Events[3] != odd {
		t.Error("an event of no kind", got)
	}
}

func TestTotal(t *testing.T) {
	for _, l := range append(rights(), wrongs()...) {
		want := new(big.Int)
		for _, a := range l.Accounts {
			want.Add(want, new(big.Int).SetUint64(a.Coins))
		}
		if got := Total(l); !isNumber(got, want) {
			t.Errorf("%v, wanted %v", got, want)
		}
	}
	if got := Total(rights()[7]); got != (amount.Wide{High: 2, Low: most - 2}) {
		t.Error("three that are full", got)
	}
}

func isNumber(w amount.Wide, n *big.Int) bool {
	sum := new(big.Int).SetUint64(w.High)
	sum.Lsh(sum, 64)
	return sum.Add(sum, new(big.Int).SetUint64(w.Low)).Cmp(n) == 0
}

func TestRight(t *testing.T) {
	for i, l := range rights() {
		if !Right(l) {
			t.Errorf("right %d isn't", i)
		}
	}
	for i, l := range wrongs() {
		if Right(l) {
			t.Errorf("wrong %d is right", i)
		}
	}
}

// TestTwin: lists of its own, which is seen where either is written to.
func TestTwin(t *testing.T) {
	for i, l := range append(rights(), wrongs()...) {
		kept, whole := keep(l)
		twin := Twin(kept)
		if !same(twin, l) {
			t.Errorf("%d: unlike", i)
		}
		scribble(twin)
		if !whole() {
			t.Errorf("%d: one memory", i)
		}
		twin = Twin(kept)
		scribble(kept)
		if !same(twin, l) {
			t.Errorf("%d: one memory, the other way", i)
		}
	}
}

// TestAnyDeed: at all ledgers, names and numbers that are at hand: arguments stay, errors leave the ledger as it is, answers have memory of their own, what was right is right.
func TestAnyDeed(t *testing.T) {
	all := deeds()
	for i, l := range append(rights(), wrongs()...) {
		kept, whole := keep(l)
		for _, d := range all {
			if len(l.Accounts)+len(l.Events) > 100 && len(d.told)%5 != 0 {
				continue // long ones go through a part of the deeds alone, lest it takes long
			}
			m, e := d.do(kept)
			again, f := d.do(kept)
			if e != f || !same(m, again) {
				t.Fatalf("%d, %s: once %v, once %v", i, d.told, e, f)
			}
			if e != api.OK && !same(m, l) {
				t.Fatalf("%d, %s: %v, but the ledger is another one", i, d.told, e)
			}
			if Right(l) && !Right(m) {
				t.Fatalf("%d, %s: isn't right any more", i, d.told)
			}
			was := again
			was.Accounts, was.Events = slices.Clone(again.Accounts), slices.Clone(again.Events)
			scribble(m)
			if !whole() {
				t.Fatalf("%d, %s: the argument was changed, or its memory is in the answer", i, d.told)
			}
			if !same(again, was) {
				t.Fatalf("%d, %s: two answers share memory", i, d.told)
			}
		}
	}
}

// TestWalk: many deeds, one behind the other, held against accounts in a map.
func TestWalk(t *testing.T) {
	r := rand.New(rand.NewSource(13))
	l := api.Ledger{}
	coins, nonces := map[string]uint64{}, map[string]uint64{}
	who := func() string { return whos[r.Intn(len(whos))] }
	number := func() uint64 {
		if r.Intn(3) == 0 {
			return numbers[r.Intn(len(numbers))]
		}
		return uint64(r.Intn(20))
	}
	for range 6000 {
		from, to, n := who(), who(), number()
		total := Total(l)
		var e api.Errno
		switch r.Intn(5) {
		case 0:
			l, e = Open(l, from, api.Digest{byte(n)}, n)
			if _, there := coins[from]; e != openError(from, there) {
				t.Fatal("open", from, e)
			}
			if e == api.OK {
				coins[from], nonces[from] = n, 0
			}
		case 1, 2:
			l, e = Move(l, from, to, n)
			if wanted := moveError(coins, from, to, n); e != wanted {
				t.Fatal("move", from, to, n, e, wanted)
			}
			if e == api.OK {
				coins[from] -= n
				coins[to] += n
			}
			if Total(l) != total {
				t.Fatal("what is moved became more or less", from, to, n)
			}
		case 3:
			l, e = Bump(l, from, uint64(r.Intn(4)))
			if e == api.OK {
				nonces[from]++
			}
		case 4:
			l, e = Spend(l, uint64(r.Intn(9)))
			if e != api.OK {
				l, _ = Tick(l, uint64(r.Intn(9)))
			}
			l = Note(l, event(n))
		}
		compare(t, l, coins, nonces)
	}
}

func openError(who string, there bool) api.Errno {
	switch {
	case !name.Right(who):
		return api.ErrName
	case there:
		return api.ErrThere
	}
	return api.OK
}

func moveError(coins map[string]uint64, from, to string, n uint64) api.Errno {
	has, there := coins[from]
	if !there {
		return api.ErrNone
	}
	if has < n {
		return api.ErrUnder
	}
	gets, there := coins[to]
	if !there {
		return api.ErrNone
	}
	if from != to && gets > most-n {
		return api.ErrOver
	}
	return api.OK
}

func compare(t *testing.T, l api.Ledger, coins, nonces map[string]uint64) {
	t.Helper()
	if !Right(l) {
		t.Fatal("isn't right any more")
	}
	has, next := map[string]uint64{}, map[string]uint64{}
	for _, a := range l.Accounts {
		has[a.Name], next[a.Name] = a.Coins, a.Nonce
	}
	if !reflect.DeepEqual(has, coins) || !reflect.DeepEqual(next, nonces) {
		t.Fatalf("%v, %v, wanted %v, %v", has, next, coins, nonces)
	}
}
