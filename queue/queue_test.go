package queue

import (
	"math"
	"math/rand"
	"slices"
	"testing"

	"pontoon/api"
)

// room: what stands behind a queue, where nobody may write.
const room = -77

// withRoom: the same queue, with room behind it, and a look whether all of that is as it was.
func withRoom(q []int) ([]int, func() bool) {
	all := append(slices.Clone(q), room, room, room)
	were := slices.Clone(all)
	return all[:len(q)], func() bool { return slices.Equal(all, were) }
}

// scribble: writes all over a queue, the room behind it, too.
func scribble(q []int) {
	all := q[:cap(q)]
	for i := range all {
		all[i] = -99
	}
}

// queues: of few things, so that some of them stand there more than once.
func queues() [][]int {
	list := [][]int{nil, {}, {1}, {1, 2, 3}, {3, 2, 1}, {1, 1, 1}, {2, 1, 2, 3, 1}, {0, 0}, {math.MinInt, math.MaxInt}}
	r := rand.New(rand.NewSource(15))
	for range 60 {
		q := make([]int, r.Intn(12))
		for i := range q {
			q[i] = r.Intn(5)
		}
		list = append(list, q)
	}
	return list
}

var things = []int{0, 1, 2, 3, 4, 5, -1, room, math.MinInt, math.MaxInt}

func expect[T comparable](t *testing.T, told string, got, want []T) {
	t.Helper()
	if !slices.Equal(got, want) {
		t.Errorf("%s: %v, wanted %v", told, got, want)
	}
}

func TestPush(t *testing.T) {
	for _, c := range []struct {
		q    []int
		most int
		e    api.Errno
	}{
		{nil, 1, api.OK},
		{[]int{}, 1, api.OK},
		{nil, math.MaxInt, api.OK},
		{[]int{7}, 2, api.OK},
		{[]int{7, 8, 9}, 4, api.OK},
		{[]int{7, 7}, 300, api.OK},
		{nil, 0, api.ErrMany},
		{nil, -1, api.ErrMany},
		{nil, math.MinInt, api.ErrMany},
		{[]int{7}, 1, api.ErrMany},
		{[]int{7}, 0, api.ErrMany},
		{[]int{7, 8, 9}, 3, api.ErrMany},
		{[]int{7, 8, 9}, 2, api.ErrMany},
		{[]int{7, 8, 9}, -3, api.ErrMany},
		{[]int{7, 8, 9}, math.MinInt, api.ErrMany},
	} {
		for _, x := range things {
			want := slices.Clone(c.q)
			if c.e == api.OK {
				want = append(want, x)
			}
			got, e := Push(c.q, x, c.most)
			if e != c.e {
				t.Errorf("%v, at most %d: %v", c.q, c.most, e)
			}
			expect(t, "push", got, want)
		}
	}
}

func TestPushUpToTheEnd(t *testing.T) {
	var q []string
	var e api.Errno
	for i, x := range []string{"a", "", "a", "b"} {
		if q, e = Push(q, x, 4); e != api.OK || len(q) != i+1 {
			t.Fatal(q, e)
		}
	}
	for range 2 {
		if q, e = Push(q, "c", 4); e != api.ErrMany {
			t.Error(e)
		}
		expect(t, "a full one", q, []string{"a", "", "a", "b"})
	}
}

func TestHas(t *testing.T) {
	for _, q := range queues() {
		for _, x := range things {
			want := false
			for _, y := range q {
				want = want || x == y
			}
			if Has(q, x) != want {
				t.Errorf("%v, %d: %v", q, x, !want)
			}
		}
	}
	kept, _ := withRoom([]int{1})
	if Has(kept, room) {
		t.Error("what is behind a queue isn't in it")
	}
}

func TestLast(t *testing.T) {
	for _, q := range queues() {
		x, ok := Last(q)
		if len(q) == 0 {
			if x != 0 || ok {
				t.Errorf("%v: %d, %v", q, x, ok)
			}
		} else if x != q[len(q)-1] || !ok {
			t.Errorf("%v: %d, %v", q, x, ok)
		}
	}
	if x, ok := Last([]string{"a", ""}); x != "" || !ok {
		t.Error("a last one that is zero", x, ok)
	}
	if x, ok := Last([][]int{}); x != nil || ok {
		t.Error("of what can't be compared", x, ok)
	}
}

// behind: what stands behind the first x, as it is said.
func behind(q []int, x int) ([]int, bool) {
	var list []int
	met := false
	for _, y := range q {
		if met {
			list = append(list, y)
		}
		met = met || x == y
	}
	if !met {
		return q, false
	}
	return list, true
}

func TestThrough(t *testing.T) {
	q, ok := Through([]int{1, 2, 3}, 2)
	if !ok {
		t.Error("the chapter's example")
	}
	expect(t, "the chapter's example", q, []int{3})
	for _, c := range []struct {
		q    []int
		x    int
		want []int
		ok   bool
	}{
		{nil, 1, nil, false},
		{[]int{2}, 1, []int{2}, false},
		{[]int{1}, 1, nil, true},
		{[]int{1, 2}, 2, nil, true},
		{[]int{1, 2, 3}, 1, []int{2, 3}, true},
		{[]int{1, 2, 3}, 4, []int{1, 2, 3}, false},
		{[]int{2, 1, 2, 3, 1}, 2, []int{1, 2, 3, 1}, true},
		{[]int{2, 1, 2, 3, 1}, 1, []int{2, 3, 1}, true},
	} {
		got, ok := Through(c.q, c.x)
		if ok != c.ok {
			t.Errorf("%v, %d: %v", c.q, c.x, ok)
		}
		expect(t, "through", got, c.want)
	}
	for _, q := range queues() {
		for _, x := range things {
			want, there := behind(q, x)
			got, ok := Through(q, x)
			if ok != there {
				t.Errorf("%v, %d: %v", q, x, ok)
			}
			expect(t, "through", got, want)
		}
	}
}

func TestAhead(t *testing.T) {
	for _, c := range []struct {
		q    []int
		x, y int
		want bool
	}{
		{[]int{1, 2}, 1, 2, true},
		{[]int{1, 2}, 2, 1, false},
		{[]int{1, 2}, 1, 1, false},
		{[]int{1, 1}, 1, 1, false},
		{[]int{1, 2}, 1, 3, false},
		{[]int{1, 2}, 3, 1, false},
		{[]int{1, 2}, 3, 4, false},
		{[]int{1, 2}, 3, 3, false},
		{nil, 1, 2, false},
		// The first ones count, not those behind them.
		{[]int{1, 2, 1}, 2, 1, false},
		{[]int{1, 2, 1}, 1, 2, true},
		{[]int{2, 1, 2}, 1, 2, false},
		{[]int{3, 3, 1, 2}, 3, 2, true},
	} {
		if Ahead(c.q, c.x, c.y) != c.want {
			t.Errorf("%v, %d, %d: %v", c.q, c.x, c.y, !c.want)
		}
	}
	for _, q := range queues() {
		for _, x := range things {
			for _, y := range things {
				i, j := slices.Index(q, x), slices.Index(q, y)
				want := i >= 0 && j >= 0 && i < j
				if Ahead(q, x, y) != want {
					t.Errorf("%v, %d, %d: %v", q, x, y, !want)
				}
			}
		}
	}
}

func TestTrim(t *testing.T) {
	q := []int{1, 2, 3, 4}
	for _, c := range []struct {
		most int
		want []int
	}{
		{0, nil}, {-1, nil}, {-5, nil}, {math.MinInt, nil},
		{1, []int{4}}, {2, []int{3, 4}}, {3, []int{2, 3, 4}},
		{4, q}, {5, q}, {math.MaxInt, q},
	} {
		expect(t, "trim", Trim(q, c.most), c.want)
		expect(t, "trim of nothing", Trim([]int(nil), c.most), nil)
	}
	for _, q := range queues() {
		for most := range 14 {
			var want []int
			for i, x := range q {
				if len(q)-i <= most {
					want = append(want, x)
				}
			}
			expect(t, "trim", Trim(q, most), want)
		}
	}
}

// TestAnyType: digests, structs, arrays and pointers are things as well; two pointers to the same are two things.
func TestAnyType(t *testing.T) {
	a, b := api.Digest{1}, api.Digest{31: 1}
	if q, ok := Through([]api.Digest{a, b}, a); !ok || !slices.Equal(q, []api.Digest{b}) {
		t.Error("digests", q, ok)
	}
	m, n := api.Nonce{To: 1, Next: 2}, api.Nonce{To: 2, Next: 1}
	if !Ahead([]api.Nonce{m, n}, m, n) || Has([]api.Nonce{m}, n) {
		t.Error("structs")
	}
	x, y := 1, 1
	if !Has([]*int{&x}, &x) || Has([]*int{&x}, &y) || Has([]*int{&x}, nil) || !Has([]*int{nil}, nil) {
		t.Error("pointers")
	}
	lists, e := Push([][]int{{1}}, []int{2}, 2)
	last, ok := Last(Trim(lists, 1))
	if e != api.OK || !ok || !slices.Equal(last, []int{2}) {
		t.Error("lists", lists, e)
	}
	nan := math.NaN()
	if Has([]float64{nan}, nan) || !Has([]float64{nan, 0}, math.Copysign(0, -1)) {
		t.Error("floats")
	}
}

// odd: a thing that may be compared as far as its type tells, but not where its Any holds a list.
type odd struct {
	Number int
	Any    any
}

// TestUncomparable: what can't be held against another is the same as nothing, and hinders nothing; nothing panics.
func TestUncomparable(t *testing.T) {
	list, table, work := []int{1}, map[int]int{}, func() {}
	q := []any{list, 1, table, "a", work, odd{2, list}, [1]any{list}, nil, 1}
	for _, x := range []any{list, []int{}, table, work, odd{2, list}, odd{2, table}, odd{3, list}, [1]any{list}, [1]any{table}, []string{}, "b", 2} {
		if Has(q, x) {
			t.Errorf("%T is there", x)
		}
		if r, ok := Through(q, x); ok || len(r) != len(q) || r[1] != 1 || r[3] != "a" || r[8] != 1 {
			t.Errorf("through %T: %v", x, ok)
		}
		if Ahead(q, x, 1) || Ahead(q, 1, x) || Ahead(q, x, x) {
			t.Errorf("ahead: %T", x)
		}
	}
	if !Has(q, any(1)) || !Has(q, any("a")) || !Has(q, nil) || !Ahead(q, any(1), nil) || Ahead(q, nil, any("a")) {
		t.Error("those that can be compared")
	}
	if r, ok := Through(q, any("a")); !ok || len(r) != 5 || r[4] != 1 {
		t.Error("through one that can be compared", ok)
	}
	more, e := Push(q, any(list), len(q)+1)
	if last, ok := Last(more); e != api.OK || !ok || last.([]int)[0] != 1 {
		t.Error("push", e)
	}
	odds := []odd{{2, list}, {3, list}, {3, "a"}}
	if Has(odds, odd{2, list}) || Has(odds, odd{4, list}) || !Has(odds, odd{3, "a"}) {
		t.Error("structs")
	}
}

// TestWhatWasPushed: it is there, and last; what is behind a thing was pushed behind it.
func TestWhatWasPushed(t *testing.T) {
	r := rand.New(rand.NewSource(153))
	for range 200 {
		var q, pushed []int
		most := 1 + r.Intn(20)
		for len(q) < most {
			x := r.Intn(30)
			more, e := Push(q, x, most)
			if e != api.OK {
				t.Fatal(q, most, e)
			}
			q, pushed = more, append(pushed, x)
			last, ok := Last(q)
			if !ok || last != x || !Has(q, x) {
				t.Fatalf("%d isn't last of %v", x, q)
			}
			expect(t, "in the order in which they came", q, pushed)
		}
		for i, x := range pushed {
			if slices.Index(pushed, x) < i {
				continue
			}
			rest, ok := Through(q, x)
			if !ok {
				t.Fatalf("%d isn't in %v", x, q)
			}
			expect(t, "behind it", rest, pushed[i+1:])
			for j, y := range pushed {
				if slices.Index(pushed, y) == j && Ahead(q, x, y) != (i < j) {
					t.Fatalf("%v: is %d ahead of %d?", q, x, y)
				}
			}
		}
	}
}

// TestMemory: what is handed in isn't changed, the room behind it neither, and no answer shares memory with it, or with another one.
func TestMemory(t *testing.T) {
	answers := map[string]func(q []int) []int{
		"push":         func(q []int) []int { p, _ := Push(q, 4, len(q)+1); return p },
		"push of many": func(q []int) []int { p, _ := Push(q, 4, len(q)); return p },
		"through":      func(q []int) []int { p, _ := Through(q, 1); return p },
		"through none": func(q []int) []int { p, _ := Through(q, 9); return p },
		"trim":         func(q []int) []int { return Trim(q, 2) },
		"trim of all":  func(q []int) []int { return Trim(q, 100) },
		"trim of none": func(q []int) []int { return Trim(q, 0) },
	}
	for told, answer := range answers {
		for _, q := range queues() {
			kept, whole := withRoom(q)
			Has(kept, 1)
			Last(kept)
			Ahead(kept, 1, 2)
			one, two := answer(kept), answer(kept)
			was := slices.Clone(two)
			if !slices.Equal(one, two) {
				t.Errorf("%s of %v: once %v, once %v", told, q, one, two)
			}
			scribble(one)
			if !whole() || !slices.Equal(two, was) {
				t.Errorf("%s of %v: shares memory", told, q)
			}
			scribble(kept)
			if !slices.Equal(two, was) {
				t.Errorf("%s of %v: keeps what was handed in", told, q)
			}
		}
	}
}
