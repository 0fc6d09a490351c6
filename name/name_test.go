package name

import (
	"strings"
	"testing"
	"unicode/utf8"
)

// pieces: runes at the ends of all ranges that the chapter names, and strays.
var pieces = []string{
	"\x00", "\n", "\x1f", " ", "!", "\"", "/", "0", "9", ":", ";", "@", "A", "Z", "[", "\\", "`", "a", "u", "x", "z", "{", "~", "\x7f",
	"\u0080", "é", "ÿ", "\u0390", "\u0391", "\u03a1", "\u03a2", "\u03a3", "\u03a9", "\u03aa", "\u03b0", "\u03b1", "\u03c2", "\u03c9", "\u03ca",
	"漢", "\ud7ff", "\ue000", "\ufffc", "\ufffd", "\uffff", "😀", "\U0010ffff",
	"\x80", "\xbf", "\xc0", "\xc3", "\xce", "\xe6", "\xef", "\xf0", "\xff",
	"\xed\xa0\x80", "\xe6\xbc", "\xf4\x90\x80\x80", "\xc0\x80",
}

// texts: the pieces, by themselves and in twos, and some that are longer.
func texts() []string {
	list := []string{"", "abc", "ada", "bob", strings.Repeat("a", 70), strings.Repeat("漢\xff", 40)}
	for _, a := range pieces {
		list = append(list, a)
		for _, b := range pieces {
			list = append(list, a+b)
		}
	}
	return list
}

func TestRunes(t *testing.T) {
	known := []struct {
		text          string
		runes, strays int
	}{
		{"", 0, 0}, {"abc", 3, 0}, {"aα漢😀", 4, 0}, {"\x00\n", 2, 0},
		{"\ufffd", 1, 0}, {"\xff", 0, 1}, {"a\xffb\xfe", 2, 2}, {"aα\xff\ufffd", 3, 1},
		{"\xe6\xbc", 0, 2}, {"\xe6\xbc\xa2", 1, 0}, {"\xe6a", 1, 1},
		{"\xed\xa0\x80", 0, 3}, {"\xc0\x80", 0, 2}, {"\xf4\x90\x80\x80", 0, 4}, {"\xef\xbf", 0, 2},
		{"\xbd\ufffd\xef", 1, 2},
	}
	for _, k := range known {
		if runes, strays := Runes(k.text); runes != k.runes || strays != k.strays {
			t.Errorf("%+q: %d and %d, wanted %d and %d", k.text, runes, strays, k.runes, k.strays)
		}
	}
	for _, s := range texts() {
		strays := 0
		for rest := s; rest != ""; {
			r, size := utf8.DecodeRuneInString(rest)
			if r == utf8.RuneError && size == 1 {
				strays++
			}
			rest = rest[size:]
		}
		if n, k := Runes(s); n != utf8.RuneCountInString(s)-strays || k != strays {
			t.Errorf("%+q: %d and %d", s, n, k)
		}
	}
}

func TestRight(t *testing.T) {
	right := []string{"a", "z", "α", "ω", "ς", "a0", "z9", "ada", "treasury", "α1", "aα9ω", "abcdefghijkl", "αβγδεζηθικλμ", "a23456789012"}
	for _, s := range right {
		if !Right(s) {
			t.Errorf("%q is a name", s)
		}
	}
	wrong := []string{"", "0", "1a", "9", "A", "aB", "aΑ", "Ω", "a b", " a", "a ", "a-b", "a\n", "a\x00", "é", "aé", "ά", "ϊ", "a漢", "a\xff", "\xff", "a\ufffd", "\xce", "a\xce",
		"abcdefghijklm", "αβγδεζηθικλμν", "a234567890123", strings.Repeat("a", 1000)}
	for _, s := range wrong {
		if Right(s) {
			t.Errorf("%+q is no name", s)
		}
	}
}

func TestRightRuneByRune(t *testing.T) {
	for r := range rune(0x3000) {
		letter := r >= 0x61 && r <= 0x7a || r >= 0x3b1 && r <= 0x3c9
		digit := r >= 0x30 && r <= 0x39
		if got := Right(string(r)); got != letter {
			t.Errorf("%U by itself: %t", r, got)
		}
		if got := Right("a" + string(r)); got != (letter || digit) {
			t.Errorf("%U behind a letter: %t", r, got)
		}
	}
}

func TestSays(t *testing.T) {
	right := []string{"", " ", "~", "hé 漢", "\u0080", "\ufffd", "\U0010ffff", "\"\\", strings.Repeat("a", 64), strings.Repeat("😀", 64)}
	for _, s := range right {
		if !Says(s) {
			t.Errorf("%q may be said", s)
		}
	}
	wrong := []string{"\x00", "a\n", "\t", "\x1f", "\x7f", "a\x7f", "\xff", "a\xe6\xbc", "\xc0\x80", "\xed\xa0\x80", "\ufffd\xff", strings.Repeat("a", 65), strings.Repeat("😀", 65), strings.Repeat("a", 64) + "\xff"}
	for _, s := range wrong {
		if Says(s) {
			t.Errorf("%+q may not be said", s)
		}
	}
	for r := range rune(0x3000) {
		if got := Says(string(r)); got != (r >= 0x20 && r != 0x7f) {
			t.Errorf("%U: %t", r, got)
		}
	}
}

func TestFold(t *testing.T) {
	known := []struct{ text, folded string }{
		{"", ""}, {"AZaz09", "azaz09"}, {"@[`{", "@[`{"}, {"AΩz\xff", "aωz\xff"},
		{"ΑΡΣΩ", "αρσω"}, {"\u0390\u03a2\u03aa", "\u0390\u03a2\u03aa"}, {"ÉÀ", "ÉÀ"}, {"Ж", "Ж"},
		{"A\xce\xffA\ufffd\xef", "a\xce\xffa\ufffd\xef"}, {"\xed\xa0\x80A", "\xed\xa0\x80a"}, {"ς", "ς"},
	}
	for _, k := range known {
		if got := Fold(k.text); got != k.folded {
			t.Errorf("%+q: %+q, wanted %+q", k.text, got, k.folded)
		}
	}
	for r := range rune(0x3000) {
		wanted := r
		if r >= 0x41 && r <= 0x5a || r >= 0x391 && r <= 0x3a9 && r != 0x3a2 {
			wanted = r + 32
		}
		if got := Fold(string(r)); got != string(wanted) {
			t.Errorf("%U: %+q", r, got)
		}
	}
}

func TestFoldOfNames(t *testing.T) {
	names := 0
	for _, s := range texts() {
		if Fold(Fold(s)) != Fold(s) {
			t.Errorf("%+q folds on", s)
		}
		if !Right(s) {
			continue
		}
		names++
		if Fold(s) != s {
			t.Errorf("the name %q folds to %q", s, Fold(s))
		}
	}
	if names < 20 {
		t.Errorf("only %d names among the texts", names)
	}
}

func TestOrder(t *testing.T) {
	rising := []string{
		"", "\x00", "\x00a", " ", "A", "a", "a\x00", "aa", "ab", "aα", "a漢", "a\xff", "b", "é", "Ω", "α", "αα", "ω", "漢", "\ufffd", "\ufffda", "\ufffd\xff", "\uffff", "😀", "\U0010ffff", "\x80", "\xc3", "\xe6\xbc", "\xff", "\xffa", "\xff\x80", "\xff\xff",
	}
	for i, a := range rising {
		for j, b := range rising {
			wanted := 0
			if i < j {
				wanted = -1
			} else if i > j {
				wanted = 1
			}
			if got := Order(a, b); got != wanted {
				t.Errorf("%+q and %+q: %d, wanted %d", a, b, got, wanted)
			}
		}
	}
}

// places: what the runes and strays of a text count as.
func places(s string) []int {
	var list []int
	for s != "" {
		r, size := utf8.DecodeRuneInString(s)
		if r == utf8.RuneError && size == 1 {
			list = append(list, 2000000+int(s[0]))
		} else {
			list = append(list, int(r))
		}
		s = s[size:]
	}
	return list
}

func TestOrderOfAllTexts(t *testing.T) {
	all := texts()
	for i := 0; i < len(all); i += 7 {
		for _, b := range all {
			a := all[i]
			wanted := plainOrder(places(a), places(b))
			if got := Order(a, b); got != wanted {
				t.Fatalf("%+q and %+q: %d, wanted %d", a, b, got, wanted)
			}
			if Order(b, a) != -wanted {
				t.Fatalf("%+q and %+q the other way round: %d", a, b, Order(b, a))
			}
			if (wanted == 0) != (a == b) {
				t.Fatalf("%+q and %+q: 0 of unlike texts, or not of like ones", a, b)
			}
		}
	}
}

func plainOrder(a, b []int) int {
	for i := 0; i < len(a) && i < len(b); i++ {
		if a[i] < b[i] {
			return -1
		}
		if a[i] > b[i] {
			return 1
		}
	}
	switch {
	case len(a) < len(b):
		return -1
	case len(a) > len(b):
		return 1
	}
	return 0
}

func TestOrderIsTransitive(t *testing.T) {
	for _, a := range pieces {
		for _, b := range pieces {
			for _, c := range pieces {
				if Order(a, b) <= 0 && Order(b, c) <= 0 && Order(a, c) > 0 {
					t.Fatalf("%+q, %+q, %+q are no order", a, b, c)
				}
			}
		}
	}
}

func TestQuote(t *testing.T) {
	known := []struct{ text, quote string }{
		{"", `""`}, {"aα\n", `"a\u3b1;\ua;"`}, {"aα\n\"\xff", `"a\u3b1;\ua;\"\xff;"`},
		{`"`, `"\""`}, {`\`, `"\\"`}, {`\u61;`, `"\\u61;"`}, {" ~", `" ~"`}, {"'`;", "\"'`;\""},
		{"\x00", `"\u0;"`}, {"\x1f\x7f", `"\u1f;\u7f;"`}, {"\u0080", `"\u80;"`}, {"\x80", `"\x80;"`}, {"漢", `"\u6f22;"`},
		{"\ufffd", `"\ufffd;"`}, {"😀", `"\u1f600;"`}, {"\U0010ffff", `"\u10ffff;"`},
		{"\xe6\xbc", `"\xe6;\xbc;"`}, {"\xed\xa0\x80", `"\xed;\xa0;\x80;"`}, {"\xffé\xfe", `"\xff;\ue9;\xfe;"`},
	}
	for _, k := range known {
		if got := Quote(k.text); got != k.quote {
			t.Errorf("%+q: %s, wanted %s", k.text, got, k.quote)
		}
		if got, ok := Unquote(k.quote); !ok || got != k.text {
			t.Errorf("%s: %+q, %t, wanted %+q", k.quote, got, ok, k.text)
		}
	}
}

func TestQuoteIsReadAgain(t *testing.T) {
	quoted := map[string]string{}
	check := func(s string) {
		q := Quote(s)
		if other, there := quoted[q]; there && other != s {
			t.Fatalf("%+q and %+q have one quote", s, other)
		}
		quoted[q] = s
		for i := range len(q) {
			if q[i] < 0x20 || q[i] > 0x7e {
				t.Fatalf("%+q: its quote %+q isn't plain", s, q)
			}
		}
		if got, ok := Unquote(q); !ok || got != s {
			t.Fatalf("%+q: its quote %s is read as %+q, %t", s, q, got, ok)
		}
	}
	for _, s := range texts() {
		check(s)
	}
	for a := range 256 {
		check(string([]byte{byte(a)}))
		for b := range 256 {
			check(string([]byte{byte(a), byte(b)}))
		}
	}
	for r := rune(0); r <= utf8.MaxRune; r += 37 {
		check(string(r))
	}
}

func TestUnquoteRefuses(t *testing.T) {
	wrong := []string{
		"", `"`, `"a`, `a"`, `a`, `'a'`, ` "a"`, `"a" `, `"a"b"`, `"""`, `"\"`, `"\\\"`, `"a\"`,
		`"\a"`, `"\n"`, `"\ "`, `"\`, `"\u"`, `"\u;"`, `"\u61"`, `"\u61;"`, `"\u3B1;"`, `"\u03b1;"`, `"\u0a;"`, `"\u00;"`, `"\u-1;"`, `"\u+3b1;"`, `"\u 3b1;"`, `"\u3_b1;"`, `"\u0x3b1;"`, `"\u3bg;"`, `"\U3b1;"`,
		`"\u22;"`, `"\u5c;"`, `"\u20;"`, `"\u7e;"`, `"\ud800;"`, `"\udfff;"`, `"\u110000;"`, `"\u7fffffff;"`, `"\u80000000;"`, `"\uffffffff;"`, `"\u1000003b1;"`, `"\u100000000000003b1;"`,
		`"\x"`, `"\x;"`, `"\xff"`, `"\x41;"`, `"\x7f;"`, `"\x0;"`, `"\x00;"`, `"\xFF;"`, `"\x0ff;"`, `"\x1ff;"`, `"\xf;"`, `"\x100;"`,
		`"\xc3;\xa9;"`, `"\xe6;\xbc;\xa2;"`, `"\xef;\xbf;\xbd;"`,
		"\"α\"", "\"\n\"", "\"\x7f\"", "\"\xff\"", "\"\x00\"", "\"\ufffd\"", "“a”",
		`"` + `\u` + strings.Repeat("0", 1000) + `3b1;"`,
	}
	for _, s := range wrong {
		if got, ok := Unquote(s); ok || got != "" {
			t.Errorf("%+q was read as %+q, %t", s, got, ok)
		}
	}
}

// TestUnquoteOfWhateverText: short texts of all that quotes are made of; each that is read is the quote of what it is read as.
func TestUnquoteOfWhateverText(t *testing.T) {
	const letters = "\"\\ux;a0f\xff"
	read := 0
	var spell func(s string, more int)
	spell = func(s string, more int) {
		got, ok := Unquote(s)
		if ok {
			read++
		}
		if ok && Quote(got) != s || !ok && got != "" {
			t.Fatalf("%+q was read as %+q, %t", s, got, ok)
		}
		if more == 0 {
			return
		}
		for i := range len(letters) {
			spell(s+letters[i:i+1], more-1)
		}
	}
	spell("", 4)
	spell(`"\x`, 5)
	spell(`"\u`, 5)
	if read == 0 {
		t.Error("none was read")
	}
}

// TestEveryCallEnds: at all texts that are at hand, in each argument.
func TestEveryCallEnds(t *testing.T) {
	for _, s := range append(texts(), strings.Repeat("\\", 10000), strings.Repeat("\"", 10000), strings.Repeat("\xff", 100000), "\"\\u"+strings.Repeat("f", 100000)+";\"") {
		Right(s)
		Says(s)
		Fold(s)
		Order(s, "")
		Order("", s)
		Order(s, s+"\xff")
		Runes(s)
		Quote(s)
		Unquote(s)
		Unquote("\"" + s + "\"")
	}
}
