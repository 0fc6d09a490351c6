// Package name is layer 2: see shared/doc/02-name.md.
package name

import (
	"strconv"
	"strings"
	"unicode/utf8"

	"pontoon/api"
)

// strayPlace is above every rune, so that strays stand behind them all.
const strayPlace = 2000000

// capitalStep is how far a small letter stands above its capital.
const capitalStep = 'a' - 'A'

// isStray: a range gives U+FFFD for a stray as well as for that rune itself; the bytes tell which it was.
func isStray(s string, at int, r rune) bool {
	return r == utf8.RuneError && !strings.HasPrefix(s[at:], "\uFFFD")
}

func isSmall(r rune) bool {
	return 'a' <= r && r <= 'z' || '\u03B1' <= r && r <= '\u03C9'
}

// isCapital: U+03A2 stands among the Greek capitals, but is no letter.
func isCapital(r rune) bool {
	return 'A' <= r && r <= 'Z' || '\u0391' <= r && r <= '\u03A9' && r != '\u03A2'
}

func isDigit(r rune) bool { return '0' <= r && r <= '9' }

// Runes: how many, and how many strays.
func Runes(s string) (int, int) {
	runes, strays := 0, 0
	for i, r := range s {
		if isStray(s, i, r) {
			strays++
		} else {
			runes++
		}
	}
	return runes, strays
}

// Right: is it a name?
func Right(s string) bool {
	count := 0
	for _, r := range s {
		if !isSmall(r) && (count == 0 || !isDigit(r)) {
			return false
		}
		count++
	}
	return 1 <= count && count <= api.MaxName
}

// Says: may it be said?
func Says(s string) bool {
	count := 0
	for i, r := range s {
		if isStray(s, i, r) || r < ' ' || r == '\u007F' {
			return false
		}
		count++
	}
	return count <= api.MaxText
}

// Fold: without capitals.
func Fold(s string) string {
	var b strings.Builder
	for i, r := range s {
		switch {
		case isStray(s, i, r):
			b.WriteByte(s[i])
		case isCapital(r):
			b.WriteRune(r + capitalStep)
		default:
			b.WriteRune(r)
		}
	}
	return b.String()
}

// place: what a rune or a stray counts as in the order.
func place(s string, at int, r rune) rune {
	if isStray(s, at, r) {
		return strayPlace + rune(s[at])
	}
	return r
}

// firstPlace: -1, which is ahead of all places, where a text has ended.
func firstPlace(s string) rune {
	if s == "" {
		return -1
	}
	r, _ := utf8.DecodeRuneInString(s)
	return place(s, 0, r)
}

// Order: which text stands first.
func Order(a, b string) int {
	for i, r := range a {
		// Up to here all places were alike, and so were the bytes: both texts stand at the same one.
		here, there := place(a, i, r), firstPlace(b[i:])
		if here < there {
			return -1
		}
		if here > there {
			return 1
		}
	}
	if len(a) < len(b) {
		return -1
	}
	return 0
}

// Quote: a text as one that is plain.
func Quote(s string) string {
	var b strings.Builder
	b.WriteByte('"')
	for i, r := range s {
		switch {
		case isStray(s, i, r):
			b.WriteString(`\x` + strconv.FormatUint(uint64(s[i]), 16) + ";")
		case r == '"' || r == '\\':
			b.WriteByte('\\')
			b.WriteRune(r)
		case ' ' <= r && r <= '~':
			b.WriteRune(r)
		default:
			b.WriteString(`\u` + strconv.FormatUint(uint64(r), 16) + ";")
		}
	}
	b.WriteByte('"')
	return b.String()
}

// Unquote: the text whose quote it is.
func Unquote(s string) (string, bool) {
	inner, opened := strings.CutPrefix(s, `"`)
	inner, closed := strings.CutSuffix(inner, `"`)
	if !opened || !closed {
		return "", false
	}
	var b strings.Builder
	for inner != "" {
		piece, size := readPiece(inner)
		if size == 0 {
			return "", false
		}
		b.WriteString(piece)
		inner = inner[size:]
	}
	text := b.String()
	// Each text has one quote alone, but more than that is read above: other numbers' forms, strays that make up a rune.
	if Quote(text) != s {
		return "", false
	}
	return text, true
}

// readPiece: the first piece of what stands between the marks, read, and how many bytes it takes; 0, if it is none.
func readPiece(s string) (string, int) {
	if s[0] != '\\' {
		return s[:1], 1
	}
	if len(s) == 1 {
		return "", 0
	}
	switch s[1] {
	case '"', '\\':
		return s[1:2], 2
	case 'u', 'x':
		return readNumber(s)
	}
	return "", 0
}

// readNumber: a rune or a stray that is told by its number, up to the semicolon.
func readNumber(s string) (string, int) {
	end := strings.IndexByte(s, ';')
	if end < 0 {
		return "", 0
	}
	n, err := strconv.ParseUint(s[2:end], 16, 31)
	if err != nil {
		return "", 0
	}
	if s[1] == 'x' {
		return string([]byte{byte(n)}), end + 1
	}
	return string(rune(n)), end + 1
}
