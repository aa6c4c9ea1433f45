package lex

import (
	"math"
	"math/big"
	"slices"
	"strings"
	"testing"
	"unsafe"

	"fairlead/api"
)

// The document's numbers, written out.
const (
	kindWord   = 1
	kindNumber = 2
	kindSign   = 3
	kindEnd    = 4

	wrongLong   = 4
	wrongByte   = 5
	wrongNumber = 6

	most = 8192
)

const (
	letters = "abcdefghijklmnopqrstuvwxyz"
	digits  = "0123456789"
	tail    = letters + digits + "_"
)

func word(at int, text string) api.Token { return api.Token{Kind: kindWord, At: at, Text: text} }
func sign(at int, text string) api.Token { return api.Token{Kind: kindSign, At: at, Text: text} }
func end(at int) api.Token               { return api.Token{Kind: kindEnd, At: at} }
func num(at int, text string, n uint64) api.Token {
	return api.Token{Kind: kindNumber, At: at, Text: text, N: n}
}

// has fails if a text does not have just these tokens.
func has(t *testing.T, text string, want ...api.Token) {
	t.Helper()
	l, wrong, at := All(text)
	if wrong != 0 || at != -1 || !slices.Equal(l, want) {
		t.Errorf("%.60q: %v, %d, %d: not %v", text, l, wrong, at, want)
	}
}

// fails fails if not just this is wrong with a text, at this place, and without tokens beside it.
func fails(t *testing.T, text string, want api.Errno, place int) {
	t.Helper()
	l, wrong, at := All(text)
	if wrong != want || at != place || len(l) != 0 {
		t.Errorf("%.60q: %v, %d, %d: not %d, %d", text, l, wrong, at, want, place)
	}
}

// slow is All by the document's words: byte by byte, and by numbers without bound.
func slow(text string) ([]api.Token, api.Errno, int) {
	if len(text) > most {
		return nil, wrongLong, 0
	}
	var l []api.Token
	for at := 0; at < len(text); {
		if n := slowBlank(text[at:]); n > 0 {
			at += n
			continue
		}
		token := slowToken(text[at:])
		token.At = at
		switch {
		case token.Kind == 0:
			return nil, wrongByte, at
		case token.Kind == kindNumber && !slowNumber(&token):
			return nil, wrongNumber, at
		}
		l = append(l, token)
		at += len(token.Text)
	}
	return append(l, end(len(text))), 0, -1
}

// slowBlank is how many bytes ahead of a text are one blank: a byte, or a note, without the byte 10 that ends it.
func slowBlank(text string) int {
	switch text[0] {
	case 9, 10, 13, 32:
		return 1
	case 35:
		if n := strings.IndexByte(text, 10); n >= 0 {
			return n
		}
		return len(text)
	}
	return 0
}

func slowToken(text string) api.Token {
	n := 1
	for n < len(text) && strings.IndexByte(tail, text[n]) >= 0 {
		n++
	}
	if strings.IndexByte(letters, text[0]) >= 0 {
		return word(0, text[:n])
	}
	if strings.IndexByte(digits, text[0]) >= 0 {
		return num(0, text[:n], 0)
	}
	if len(text) > 1 && text[1] == '=' && strings.IndexByte("=!<>", text[0]) >= 0 {
		return sign(0, text[:2])
	}
	if strings.IndexByte(";,<>&", text[0]) >= 0 {
		return sign(0, text[:1])
	}
	return api.Token{}
}

// slowNumber tells whether a number may be, and sets its worth.
func slowNumber(token *api.Token) bool {
	of, base, text := digits, int64(10), token.Text
	if strings.HasPrefix(text, "0x") {
		of, base, text = digits+"abcdef", 16, text[2:]
		if len(text) < 1 || len(text) > 16 {
			return false
		}
	} else if text[0] == '0' && len(text) > 1 {
		return false
	}
	n := new(big.Int)
	for i := range len(text) {
		d := strings.IndexByte(of, text[i])
		if d < 0 {
			return false
		}
		n.Add(n.Mul(n, big.NewInt(base)), big.NewInt(int64(d)))
	}
	token.N = n.Uint64()
	return n.BitLen() <= 64
}

// slowWord is Is by the document's words.
func slowWord(s string) bool {
	return s != "" && strings.IndexByte(letters, s[0]) >= 0 && strings.Trim(s[1:], tail) == ""
}

// follows fails if All does not answer of a text what the words say.
func follows(t *testing.T, text string) {
	t.Helper()
	l, wrong, at := All(text)
	if want, wrongToo, place := slow(text); wrong != wrongToo || at != place || !slices.Equal(l, want) {
		t.Fatalf("%q: %v, %d, %d: not %v, %d, %d", text, l, wrong, at, want, wrongToo, place)
	}
}

// chance is a row of numbers that look scattered, and are the same at each run of the tests.
type chance uint64

func (c *chance) below(n int) int {
	*c += 0x9e3779b97f4a7c15
	z := uint64(*c)
	z = (z ^ z>>30) * 0xbf58476d1ce4e5b9
	z = (z ^ z>>27) * 0x94d049bb133111eb
	return int((z ^ z>>31) % uint64(n))
}

// of is one of some texts.
func (c *chance) of(l []string) string { return l[c.below(len(l))] }

// row is so many of some texts side by side.
func (c *chance) row(n int, l []string) string {
	var b strings.Builder
	for range n {
		b.WriteString(c.of(l))
	}
	return b.String()
}

// blanks are at least one, and may hold notes, each of which ends with a byte 10.
func (c *chance) blanks() string {
	return c.row(1+c.below(3), []string{" ", "\t", "\n", "\r", "\r\n", "#\n", "# a 5 == 05 =\n", "#é\xff\x00#\r\n"})
}

// tokenTexts are those of tokens that may be.
func tokenTexts() []string {
	return []string{"a", "z", "x", "f", "default", "arg0", "a_", "a__0", "x1f", "a0x1", "0", "1", "5", "9", "10",
		"4096", "18446744073709551615", "0x0", "0x10", "0xff", "0xffffffffffffffff", "0x0000000000000001", "0xabcdef",
		"==", "!=", "<=", ">=", ";", ",", "<", ">", "&"}
}

// pieces are what texts are made of, of blanks, and of what is wrong.
func pieces() []string {
	return append(tokenTexts(), " ", "  ", "\t", "\n", "\r", "#", "# a", "#\n", "=", "!", "_", "A", "05", "0x", "1a",
		"1_", "é", "\xff", "\x00", "\v", "18446744073709551616", "0x10000000000000000", "-", "+", "\"", "|", "(", ")",
		"$", "%", "/")
}

// P9.1: the numbers that api gives the kinds of tokens, and what may be wrong.
func TestNumbersAreNamed(t *testing.T) {
	if api.Word != kindWord || api.Number != kindNumber || api.Sign != kindSign || api.End != kindEnd {
		t.Error("kinds of tokens")
	}
	if api.OK != 0 || api.ErrLong != wrongLong || api.ErrByte != wrongByte || api.ErrNumber != wrongNumber {
		t.Error("errors")
	}
	if api.MaxText != most {
		t.Error("the limit of texts")
	}
}

// P9.1: the chapter's examples, and texts of those of the whole.
func TestExamples(t *testing.T) {
	has(t, "arg0 & 0x10 == 5", word(0, "arg0"), sign(5, "&"), num(7, "0x10", 16), sign(12, "=="), num(15, "5", 5),
		end(16))
	fails(t, "05", wrongNumber, 0)
	fails(t, "a=1", wrongByte, 1)
	fails(t, "1a", wrongNumber, 0)

	has(t, "default kill; allow read, write; errno 13 open when arg1 & 3 != 0;", word(0, "default"), word(8, "kill"),
		sign(12, ";"), word(14, "allow"), word(20, "read"), sign(24, ","), word(26, "write"), sign(31, ";"),
		word(33, "errno"), num(39, "13", 13), word(42, "open"), word(47, "when"), word(52, "arg1"), sign(57, "&"),
		num(59, "3", 3), sign(61, "!="), num(64, "0", 0), sign(65, ";"), end(66))
	has(t, "default allow; log read;", word(0, "default"), word(8, "allow"), sign(13, ";"), word(15, "log"),
		word(19, "read"), sign(23, ";"), end(24))
	has(t, "arg0 & 0xff00000000 == 0x100000000", word(0, "arg0"), sign(5, "&"), num(7, "0xff00000000", 0xff00000000),
		sign(20, "=="), num(23, "0x100000000", 0x100000000), end(34))
}

// P9.1: of a text without tokens there is the one of Kind End alone, at the text's length.
func TestTextsWithoutTokens(t *testing.T) {
	for _, text := range []string{"", " ", "\t", "\n", "\r", "  ", "\r\n", " \t\r\n \n\t", "#", "##", "# ", "#\n",
		"#\n#", "#\n\n#\n", " # \n ", "#\r", "#a = ! 05 A é", "#é\n", "#\xff", "#\x00\n", strings.Repeat(" ", most),
		strings.Repeat("\n", most), strings.Repeat("#", most), strings.Repeat("#\n", most/2)} {
		has(t, text, end(len(text)))
	}
}

// P9.1: the token of Kind End has no Text and no N, and stands behind blanks and notes, at the text's length.
func TestEnd(t *testing.T) {
	for _, text := range []string{"a", "a ", "a\n", "a\n\n\t ", "a#", "a # b", "a#b\n", "a# é", "a#\xff\xff",
		"a" + strings.Repeat(" ", most-1)} {
		has(t, text, word(0, "a"), end(len(text)))
	}
	has(t, "7", num(0, "7", 7), end(1))
	has(t, ">=", sign(0, ">="), end(2))
}

// P9.1: each of the 256 bytes, alone, behind a token, and between two tokens.
func TestEachByte(t *testing.T) {
	for b := range 256 {
		s := string([]byte{byte(b)})
		switch {
		case strings.Contains("\t\n\r ", s):
			has(t, s, end(1))
			has(t, "a"+s, word(0, "a"), end(2))
			has(t, "a"+s+"b", word(0, "a"), word(2, "b"), end(3))
		case s == "#":
			has(t, s, end(1))
			has(t, "a"+s, word(0, "a"), end(2))
			has(t, "a"+s+"b", word(0, "a"), end(3))
		case strings.Contains(letters, s):
			has(t, s, word(0, s), end(1))
			has(t, "a"+s, word(0, "a"+s), end(2))
			has(t, "a"+s+"b", word(0, "a"+s+"b"), end(3))
		case strings.Contains(digits, s):
			has(t, s, num(0, s, uint64(b)-'0'), end(1))
			has(t, "a"+s, word(0, "a"+s), end(2))
			has(t, "a"+s+"b", word(0, "a"+s+"b"), end(3))
		case strings.Contains(";,<>&", s):
			has(t, s, sign(0, s), end(1))
			has(t, "a"+s, word(0, "a"), sign(1, s), end(2))
			has(t, "a"+s+"b", word(0, "a"), sign(1, s), word(2, "b"), end(3))
		case s == "_":
			fails(t, s, wrongByte, 0)
			has(t, "a"+s, word(0, "a"+s), end(2))
			has(t, "a"+s+"b", word(0, "a"+s+"b"), end(3))
		default:
			fails(t, s, wrongByte, 0)
			fails(t, "a"+s, wrongByte, 1)
			fails(t, "a"+s+"b", wrongByte, 1)
		}
		has(t, "#"+s, end(2))
		if b != 10 {
			has(t, "#"+s+"b=05", end(6))
		}
	}
}

// P9.1: the four bytes that are blanks part tokens; those near them, and what is blank in other texts, begin no token.
func TestBlanks(t *testing.T) {
	for _, s := range []string{"\t", "\n", "\r", " "} {
		has(t, s+"a"+s+"5"+s+"=="+s, word(1, "a"), num(3, "5", 5), sign(5, "=="), end(8))
		fails(t, "="+s+"=", wrongByte, 0)
		fails(t, "!"+s+"=", wrongByte, 0)
		has(t, "<"+s+"&", sign(0, "<"), sign(2, "&"), end(3))
		has(t, "0"+s+"5", num(0, "0", 0), num(2, "5", 5), end(3))
	}
	for _, s := range []string{"\x00", "\x01", "\b", "\v", "\f", "\x0e", "\x0f", "\x1f", "!", "\"", "\x7f", "\x80",
		"\x85", "\xa0", "\u0085", "\u00a0", "\u0109", "\u010a", "\u0120", "\u1680", "\u2000", "\u2028", "\u2029",
		"\u3000", "\ufeff"} {
		fails(t, s, wrongByte, 0)
		fails(t, " "+s+" ", wrongByte, 1)
		fails(t, "a"+s, wrongByte, 1)
		fails(t, "5"+s+"5", wrongByte, 1)
		fails(t, "; "+s, wrongByte, 2)
	}
}

// P9.1: a note ends with the next byte 10 or with the text, with no other byte, and holds what it will.
func TestNotes(t *testing.T) {
	has(t, "a # b\nc", word(0, "a"), word(6, "c"), end(7))
	has(t, "a#b\nc", word(0, "a"), word(4, "c"), end(5))
	has(t, "#a\nb", word(3, "b"), end(4))
	has(t, "a#\nb", word(0, "a"), word(3, "b"), end(4))
	has(t, "a#b\rc", word(0, "a"), end(5))
	has(t, "a#b\r\nc", word(0, "a"), word(5, "c"), end(6))
	has(t, "a#b\vc\fd\x00e", word(0, "a"), end(9))
	has(t, "a#b#c\nd", word(0, "a"), word(6, "d"), end(7))
	has(t, "#a\n#b\nc#d\n#e", word(6, "c"), end(12))
	has(t, "# a 5 ; == 05 = ! A \" é \xff\n7", num(27, "7", 7), end(28))
	has(t, "5#5", num(0, "5", 5), end(3))
	fails(t, "<#\n=#", wrongByte, 3)
	fails(t, "0#\nx1 05", wrongNumber, 6)
}

// P9.1: how long a text is counts in bytes, and ahead of all that is in it.
func TestLongTexts(t *testing.T) {
	for _, text := range []string{strings.Repeat(" ", most), strings.Repeat("a", most), strings.Repeat(";", most),
		strings.Repeat("<=", most/2), strings.Repeat("a ", most/2), "#" + strings.Repeat("é", (most-1)/2) + " ",
		"7" + strings.Repeat(" ", most-2) + "7"} {
		if len(text) != most {
			t.Fatal(len(text))
		}
		follows(t, text)
		if _, wrong, at := All(text); wrong != 0 || at != -1 {
			t.Errorf("%.10q: %d, %d", text, wrong, at)
		}
		fails(t, text+" ", wrongLong, 0)
		fails(t, " "+text, wrongLong, 0)
		fails(t, text+"=", wrongLong, 0)
	}
	has(t, strings.Repeat("a", most), word(0, strings.Repeat("a", most)), end(most))
	has(t, strings.Repeat(" ", most-1)+"a", word(most-1, "a"), end(most))
	fails(t, strings.Repeat(" ", most-1)+"=", wrongByte, most-1)
	fails(t, strings.Repeat(" ", most-2)+"00", wrongNumber, most-2)
	fails(t, strings.Repeat("7", most), wrongNumber, 0)
	fails(t, strings.Repeat("7", most+1), wrongLong, 0)
	fails(t, strings.Repeat("=", most+1), wrongLong, 0)
	fails(t, strings.Repeat("=!", most), wrongLong, 0)
	fails(t, "05"+strings.Repeat(" ", most-1), wrongLong, 0)
	fails(t, "#"+strings.Repeat("é", most/2), wrongLong, 0) // fewer runes than that, but more bytes
	fails(t, string(make([]byte, most+1)), wrongLong, 0)
	fails(t, string(make([]byte, most)), wrongByte, 0)
	fails(t, strings.Repeat(" ", 1<<20), wrongLong, 0)
}

// P9.1: a word goes on as long as it can, and no word begins but with a small letter.
func TestWords(t *testing.T) {
	for _, text := range []string{"a", "m", "z", "aa", "az", "a0", "a9", "a_", "a__", "a_0", "a0_", "z9z_", "x", "x10",
		"e5", "o17", "a0x10", letters, "a" + tail + tail, "default", "arg0", "when", "true", "nil",
		"a18446744073709551616"} {
		has(t, text, word(0, text), end(len(text)))
		has(t, " "+text+";", word(1, text), sign(1+len(text), ";"), end(2+len(text)))
		has(t, text+" "+text, word(0, text), word(1+len(text), text), end(1+2*len(text)))
		for _, behind := range []string{"A", "Z", "-", ".", "=", "!", "'", "`", "{", "/", ":", "@", "[", "^", "é",
			"\x80", "\x00"} {
			fails(t, text+behind, wrongByte, len(text))
		}
	}
	for _, text := range []string{"_", "_a", "__", "_0", "A", "Z", "Aa", "É", "é", "ß", "ª", "ａ", "\u0430", "\u0161",
		"`", "{", "-a", ".a", "$a", "\"a\"", "'a'", "@"} {
		fails(t, text, wrongByte, 0)
		fails(t, "a "+text, wrongByte, 2)
	}
	fails(t, "aB", wrongByte, 1)
	fails(t, "a-b", wrongByte, 1)
	fails(t, "a.b", wrongByte, 1)
}

// P9.1: numbers of ten digits: 0 alone begins with 0, and all are below 2^64.
func TestNumbers(t *testing.T) {
	for text, n := range map[string]uint64{"0": 0, "1": 1, "2": 2, "3": 3, "4": 4, "5": 5, "6": 6, "7": 7, "8": 8,
		"9": 9, "10": 10, "100": 100, "1234567890": 1234567890, "4294967295": math.MaxUint32, "4294967296": 1 << 32,
		"9223372036854775807": math.MaxInt64, "9223372036854775808": 1 << 63,
		"9999999999999999999": 9999999999999999999, "10000000000000000000": 10000000000000000000,
		"18446744073709551609": math.MaxUint64 - 6, "18446744073709551614": math.MaxUint64 - 1,
		"18446744073709551615": math.MaxUint64} {
		has(t, text, num(0, text, n), end(len(text)))
		has(t, "\n"+text+",", num(1, text, n), sign(1+len(text), ","), end(2+len(text)))
		has(t, "a "+text+" "+text, word(0, "a"), num(2, text, n), num(3+len(text), text, n), end(3+2*len(text)))
	}
	for _, text := range []string{"00", "01", "05", "007", "000", "010", "018446744073709551615",
		strings.Repeat("0", 20), strings.Repeat("0", most-2), "18446744073709551616", "18446744073709551617",
		"18446744073709551619", "18446744073709551620", "18446744073709551700", "18446744073709552000",
		"18446744073809551615", "19446744073709551615", "20000000000000000000", "28446744073709551615",
		"36893488147419103231", "36893488147419103232", "36893488147419103233", "99999999999999999999",
		"100000000000000000000", "184467440737095516150", "340282366920938463463374607431768211456",
		"340282366920938463463374607431768211457", "1" + strings.Repeat("0", 64),
		"1" + strings.Repeat("0", 19) + strings.Repeat("5", 2000), strings.Repeat("9", most-2)} {
		fails(t, text, wrongNumber, 0)
		fails(t, "; "+text, wrongNumber, 2)
	}
}

// P9.1: behind 0x are 1 to 16 digits, zeros ahead among them, of which letters are a to f.
func TestHexNumbers(t *testing.T) {
	for text, n := range map[string]uint64{"0x0": 0, "0x1": 1, "0x9": 9, "0xa": 10, "0xb": 11, "0xc": 12, "0xd": 13,
		"0xe": 14, "0xf": 15, "0x10": 16, "0x00": 0, "0x01": 1, "0x0f": 15, "0xff": 255,
		"0x123456789abcdef": 0x123456789abcdef, "0x123456789abcdef0": 0x123456789abcdef0,
		"0xfedcba9876543210": 0xfedcba9876543210, "0x0000000000000000": 0, "0x0000000000000001": 1,
		"0x1000000000000000": 1 << 60, "0x7fffffffffffffff": math.MaxInt64, "0x8000000000000000": 1 << 63,
		"0xfffffffffffffffe": math.MaxUint64 - 1, "0xffffffffffffffff": math.MaxUint64} {
		has(t, text, num(0, text, n), end(len(text)))
		has(t, "a<"+text+">", word(0, "a"), sign(1, "<"), num(2, text, n), sign(2+len(text), ">"), end(3+len(text)))
	}
	for _, text := range []string{"0x", "0x_", "0x_1", "0x1_", "0x1_0", "0xg", "0xz", "0x1g", "0xg1", "0xfg",
		"0xffffffffffffffff0", "0x00000000000000000", "0x00000000000000001", "0x10000000000000000",
		"0xfffffffffffffffff", "0x0000000000000000g", "0x000000000000000g", "0x" + strings.Repeat("0", 32),
		"0x" + strings.Repeat("f", 400), "0x0x1", "0xx1", "00x1", "1x1", "10x1", "0b1", "0b", "0o7", "0o17", "0a", "0f",
		"0_", "0_1", "0x1h", "0xdefghi", "0e1", "1e5", "1p5", "0x1p5"} {
		fails(t, text, wrongNumber, 0)
		fails(t, "a<"+text, wrongNumber, 2)
	}
	fails(t, "0X10", wrongByte, 1)  // a great X is no part of the number 0
	fails(t, "0xA", wrongNumber, 0) // nor is a great letter one of 0x, which has no digit then
	fails(t, "0xFF", wrongNumber, 0)
	fails(t, "0xaF", wrongByte, 3)
	fails(t, "0x1F", wrongByte, 3)
	fails(t, "0x 1", wrongNumber, 0)
	fails(t, "0x;", wrongNumber, 0)
	fails(t, "0x#", wrongNumber, 0)
}

// P9.1: letters, digits and _ behind a number belong to it, whatever it comes to; other bytes do not.
func TestBehindNumbers(t *testing.T) {
	for _, text := range []string{"1", "9", "10", "18446744073709551615"} {
		for b := range 256 {
			s := string([]byte{byte(b)})
			switch {
			case strings.Contains(letters+"_", s):
				fails(t, text+s, wrongNumber, 0)
				fails(t, text+s+"0", wrongNumber, 0)
				fails(t, ",,"+text+s, wrongNumber, 2)
			case strings.Contains(digits, s):
				follows(t, text+s)
			case strings.Contains("\t\n\r #;,<>&", s):
				if l, wrong, at := All(text + s); wrong != 0 || at != -1 || l[0].Text != text {
					t.Errorf("%q behind %s: %v, %d, %d", s, text, l, wrong, at)
				}
			default:
				fails(t, text+s, wrongByte, len(text))
			}
		}
	}
	fails(t, "1a", wrongNumber, 0)
	fails(t, "1_", wrongNumber, 0)
	fails(t, "1_000", wrongNumber, 0)
	fails(t, "12abc_9", wrongNumber, 0)
	fails(t, "1u", wrongNumber, 0)
	fails(t, "1.5", wrongByte, 1)
	fails(t, "-1", wrongByte, 0)
	fails(t, "+1", wrongByte, 0)
	fails(t, "1+1", wrongByte, 1)
	fails(t, "1é", wrongByte, 1)
	fails(t, "1=", wrongByte, 1)
	has(t, "1==", num(0, "1", 1), sign(1, "=="), end(3))
	has(t, "0,0", num(0, "0", 0), sign(1, ","), num(2, "0", 0), end(3))
}

// P9.1: each sign alone, and ahead of and behind others; a = and a ! alone begin no token.
func TestSigns(t *testing.T) {
	all := []string{"==", "!=", "<=", ">=", ";", ",", "<", ">", "&"}
	for _, s := range all {
		n := len(s)
		has(t, s, sign(0, s), end(n))
		has(t, " "+s+" ", sign(1, s), end(n+2))
		has(t, "a"+s+"5", word(0, "a"), sign(1, s), num(1+n, "5", 5), end(n+2))
		has(t, "5"+s+"a", num(0, "5", 5), sign(1, s), word(1+n, "a"), end(n+2))
		has(t, s+"#"+s, sign(0, s), end(2*n+1))
		for _, other := range all {
			has(t, s+" "+other, sign(0, s), sign(n+1, other), end(n+1+len(other)))
			if (s == "<" || s == ">") && other == "==" {
				fails(t, s+other, wrongByte, 2)
				continue
			}
			has(t, s+other, sign(0, s), sign(n, other), end(n+len(other)))
		}
		for _, alone := range []string{"=", "!"} {
			fails(t, alone+" "+s, wrongByte, 0)
			fails(t, s+" "+alone, wrongByte, n+1)
			if s == "<" && alone == "=" || s == ">" && alone == "=" {
				has(t, s+alone, sign(0, s+alone), end(2))
				continue
			}
			fails(t, s+alone, wrongByte, n)
		}
	}
	for _, text := range []string{"=", "!", "= ", "! ", "=a", "!a", "=1", "!1", "=<", "=>", "=!", "=!=", "!!", "!!=",
		"!<", "!>", "=;", "!&", "= =", "! =", "=\n=", "=#\n=", "|", "||", "~", "^", "*", "+", "-", "/", "%", "(", ")",
		":", ".", "?", "\\", "{", "}", "[", "]", "@", "$", "'", "\"", "`"} {
		fails(t, text, wrongByte, 0)
		fails(t, "ab"+text, wrongByte, 2)
		fails(t, "& "+text, wrongByte, 2)
	}
	fails(t, "===", wrongByte, 2)
	fails(t, "!==", wrongByte, 2)
	fails(t, "<==", wrongByte, 2)
	fails(t, ">==", wrongByte, 2)
	fails(t, "a=", wrongByte, 1)
	fails(t, "a!", wrongByte, 1)
	fails(t, "a =", wrongByte, 2)
	has(t, "====", sign(0, "=="), sign(2, "=="), end(4))
	has(t, "!===", sign(0, "!="), sign(2, "=="), end(4))
	has(t, "<===", sign(0, "<="), sign(2, "=="), end(4))
	has(t, "<<=>>=", sign(0, "<"), sign(1, "<="), sign(3, ">"), sign(4, ">="), end(6))
	has(t, "<>", sign(0, "<"), sign(1, ">"), end(2))
	has(t, "<!=", sign(0, "<"), sign(1, "!="), end(3))
	has(t, "&&", sign(0, "&"), sign(1, "&"), end(2))
	has(t, ";;,,", sign(0, ";"), sign(1, ";"), sign(2, ","), sign(3, ","), end(4))
	has(t, "< == ==", sign(0, "<"), sign(2, "=="), sign(5, "=="), end(7))
}

// P9.1: bytes from 128 on begin no token, whether they make a rune or none; the place is that of the first of them. In a
// note they are like any others, and places behind count each of them.
func TestBytesFrom128On(t *testing.T) {
	for _, s := range []string{"\x80", "\x8a", "\x89", "\xa0", "\xb0", "\xbf", "\xc0", "\xc2", "\xc3", "\xe1", "\xef",
		"\xf4", "\xf5", "\xfe", "\xff", "\xc3\xa9", "é", "ÿ", "Ā", "ŀ", "š", "ı", "ſ", "\u212a", "٣", "０", "ａ", "；",
		"＝", "＃", "\u0109", "\u010a", "\u010d", "\u0120", "\u0123", "\u0130", "\u013b", "\u013c", "\u013d", "\u2028",
		"語", "\ufffd", "\U0001f600", "\U0010ffff", "\xed\xa0\x80", "\xf0\x9f\x98", "\xe2\x80", "\xc0\x8a", "\xc0\xa0",
		"\xff\xfe", "\xc3\x28", "\xe0\x80\x8a", "é\x80", "\x80é"} {
		n := len(s)
		fails(t, s, wrongByte, 0)
		fails(t, " "+s, wrongByte, 1)
		fails(t, "a"+s, wrongByte, 1)
		fails(t, "a"+s+"b", wrongByte, 1)
		fails(t, "12"+s, wrongByte, 2)
		fails(t, "0x1"+s, wrongByte, 3)
		fails(t, "0x"+s, wrongNumber, 0)
		fails(t, "05"+s, wrongNumber, 0)
		fails(t, "<"+s, wrongByte, 1)
		fails(t, "="+s, wrongByte, 0)
		fails(t, "#"+s+"\n"+s, wrongByte, n+2)
		has(t, "#"+s, end(n+1))
		has(t, "a#"+s+"b", word(0, "a"), end(n+3))
		has(t, "#"+s+"\na", word(n+2, "a"), end(n+3))
		has(t, "#"+s+s+"# \n\n5 #"+s, num(2*n+5, "5", 5), end(3*n+8))
	}
}

// P9.1: of two faults the one that is first in the text is told.
func TestTwoFaults(t *testing.T) {
	fails(t, "05 =", wrongNumber, 0)
	fails(t, "= 05", wrongByte, 0)
	fails(t, "a 1b !", wrongNumber, 2)
	fails(t, "a ! 1b", wrongByte, 2)
	fails(t, "05 06", wrongNumber, 0)
	fails(t, "a = = 5", wrongByte, 2)
	fails(t, "5 A 05", wrongByte, 2)
	fails(t, "0x=", wrongNumber, 0)
	fails(t, "05=", wrongNumber, 0)
	fails(t, "=05", wrongByte, 0)
	fails(t, "5=05", wrongByte, 1)
	fails(t, "05é", wrongNumber, 0)
	fails(t, "é05", wrongByte, 0)
	fails(t, "\xff05", wrongByte, 0)
	fails(t, "#=\n05 =", wrongNumber, 3)
	fails(t, "#05\n= 05", wrongByte, 4)
	fails(t, "= #\n05", wrongByte, 0)
	fails(t, strings.Repeat("a ", 4000)+"= 05", wrongByte, 8000)
	fails(t, strings.Repeat("a ", 4000)+"05 =", wrongNumber, 8000)
}

// P9.1: places count each byte of what stands ahead of them, whatever it is; tokens and faults are at them.
func TestPlaces(t *testing.T) {
	for _, ahead := range []string{"", " ", "\t\r\n", "#\n", "# a 05 = \n", "#é\n", "#\xff\xe2\x80\n", "#語\r\n\t", "a ",
		"ab_9\n", "0 ", "18446744073709551615\t", "0xffffffffffffffff ", "==", "< ", ";", "&&&", "a<=b;", "a#\n",
		"5#é\n"} {
		n := len(ahead)
		before, wrong, _ := All(ahead)
		if wrong != 0 {
			t.Fatalf("%q: %d", ahead, wrong)
		}
		before = before[:len(before)-1]
		has(t, ahead+"when", append(slices.Clone(before), word(n, "when"), end(n+4))...)
		has(t, ahead+"77", append(slices.Clone(before), num(n, "77", 77), end(n+2))...)
		has(t, ahead+"0x1f;", append(slices.Clone(before), num(n, "0x1f", 31), sign(n+4, ";"), end(n+5))...)
		has(t, ahead+"!=&", append(slices.Clone(before), sign(n, "!="), sign(n+2, "&"), end(n+3))...)
		fails(t, ahead+"!", wrongByte, n)
		fails(t, ahead+"A", wrongByte, n)
		fails(t, ahead+"é", wrongByte, n)
		fails(t, ahead+"\xff", wrongByte, n)
		fails(t, ahead+"1a", wrongNumber, n)
		fails(t, ahead+"00", wrongNumber, n)
	}
}

// P9.1: every short text of bytes of each kind, by the document's words.
func TestShortTextsFollowTheWords(t *testing.T) {
	some := "a_x01= \n#<!;A\xc3\xa9"
	var more func(text []byte, n int)
	more = func(text []byte, n int) {
		follows(t, string(text))
		if s := string(text); Is(s) != slowWord(s) {
			t.Fatalf("Is(%q): %t", s, Is(s))
		}
		for i := 0; n > 0 && i < len(some); i++ {
			more(append(text, some[i]), n-1)
		}
	}
	more(nil, 4)
}

// P9.1: scattered texts, by the document's words: of bytes, of tokens side by side, and of these with faults among them.
func TestScatteredTextsFollowTheWords(t *testing.T) {
	c := chance(9)
	for range 20000 {
		b := make([]byte, c.below(12))
		for i := range b {
			b[i] = byte(c.below(256))
		}
		follows(t, string(b))
		follows(t, c.row(c.below(12), tokenTexts()))
		follows(t, c.row(c.below(12), pieces()))
		follows(t, c.row(c.below(6), strings.Split("0 1 9 a f x 0x _ 0000 ffff 1844674407 3709551615 3709551616", " ")))
	}
	for range 50 {
		follows(t, c.row(1000+c.below(3000), []string{"a", "5 ", ";", "<", " == ", "#é\n", "\t", "b_1 "}))
	}
}

// P9.2: texts that are words, and others: empty, with blanks, with great letters, with what begins no word, with more.
func TestIs(t *testing.T) {
	for _, s := range []string{"a", "z", "m", "a_0", "a_", "a0", "abc", "default", "arg0", "x10", "z" + tail,
		strings.Repeat("a", most), strings.Repeat("a", most+1), "a" + strings.Repeat("_9", 1<<19)} {
		if !Is(s) {
			t.Errorf("%.40q is a word", s)
		}
	}
	for _, s := range []string{"", "_", "_a", "__", "0", "0a", "9z", "0x10", "A", "aA", "Aa", " ", " a", "a ", "a b",
		"\na", "a\n", "a\t", "a\r", "a#", "#a", "#", "a;", ";", "==", "a==", "a-b", "a.b", "a`", "a{", "a/", "a:", "a@",
		"a[", "`", "{", "é", "aé", "éa", "a\xff", "\xffa", "\xe1", "a\x00", "\x00", "š", "aš", "ａ", "a\u0161",
		"a\ufffd", strings.Repeat("a", most) + " ", strings.Repeat("a", 1<<20) + "A"} {
		if Is(s) {
			t.Errorf("%.40q is no word", s)
		}
	}
}

// P9.2: each byte alone, ahead of a word, within it and behind it.
func TestIsOfEachByte(t *testing.T) {
	for b := range 256 {
		s := string([]byte{byte(b)})
		begins, goesOn := strings.Contains(letters, s), strings.Contains(tail, s)
		if Is(s) != begins || Is(s+"a") != begins || Is("a"+s) != goesOn || Is("a"+s+"a") != goesOn || Is("a0_"+s+s) != goesOn {
			t.Errorf("%q: %t, %t, %t, %t", s, Is(s), Is(s+"a"), Is("a"+s), Is("a"+s+"a"))
		}
	}
}

// P9.1, P9.2: a text is a word just if all of it is read as one.
func TestIsAndAllAgree(t *testing.T) {
	c := chance(92)
	for range 50000 {
		s := c.row(c.below(5), pieces())
		l, wrong, _ := All(s)
		one := wrong == 0 && len(l) == 2 && l[0].Kind == kindWord && l[0].Text == s
		if Is(s) != one || Is(s) != slowWord(s) {
			t.Fatalf("%q: %t, and %v", s, Is(s), l)
		}
	}
}

// unplaced are tokens without their places.
func unplaced(l []api.Token) []api.Token {
	l = slices.Clone(l)
	for i := range l {
		l[i].At = 0
	}
	return l
}

// sameTokens fails if two texts that may be don't have the same tokens, but for places.
func sameTokens(t *testing.T, text, other string) {
	t.Helper()
	l, wrong, _ := All(text)
	m, wrongToo, _ := All(other)
	if wrong != 0 || wrongToo != 0 || !slices.Equal(unplaced(l), unplaced(m)) {
		t.Fatalf("%q and %q: %v, %d and %v, %d", text, other, l, wrong, m, wrongToo)
	}
}

// rightTexts are texts that may be, scattered, with tokens side by side where that is no fault.
func rightTexts() []string {
	c := chance(93)
	var l []string
	for len(l) < 5000 {
		text := c.row(c.below(10), append(tokenTexts(), " ", " ", "\n", "# a\n", "\t", "#é\n", "\r"))
		if _, wrong, _ := slow(text); wrong == 0 {
			l = append(l, text)
		}
	}
	return append(l, "", "a", "a<=b", "a==5;b&0x1f!=3", "# all of it\ndefault kill; # é\nallow read,write;\r\n", "<<=",
		"a#", "5#5\n;")
}

// P9.3: blanks ahead, between and behind tokens, of each kind, change nothing but places.
func TestTheoremOfBlanks(t *testing.T) {
	c := chance(931)
	for _, text := range rightTexts() {
		l, _, _ := All(text)
		var b strings.Builder
		from := 0
		for _, token := range l {
			b.WriteString(text[from:token.At])
			b.WriteString(c.blanks())
			from = token.At
		}
		sameTokens(t, text, b.String())
		sameTokens(t, text, c.blanks()+text)
		for _, blank := range []string{" ", "\t", "\n", "\r", "#\n", "#a\n"} {
			sameTokens(t, text, blank+text)
			sameTokens(t, text, text+"\n"+blank) // a byte 10 first, for a text may end with a note
		}
		sameTokens(t, text, text+"\n# the end")
	}
}

// P9.3: the tokens' texts, with a blank between, are the same tokens, at places that are known.
func TestTheoremOfTexts(t *testing.T) {
	c := chance(932)
	for _, text := range rightTexts() {
		l, _, _ := All(text)
		var texts []string
		for _, token := range l {
			texts = append(texts, token.Text)
		}
		for _, blank := range []string{" ", "\t", "\n", "\r", "#\n", c.blanks()} {
			sameTokens(t, text, strings.Join(texts, blank))
			m, _, _ := All(strings.Join(texts, blank))
			at := 0
			for i, token := range m {
				if token.At != at {
					t.Fatalf("%q: token %d at %d, not %d", strings.Join(texts, blank), i, token.At, at)
				}
				at += len(texts[i]) + len(blank)
			}
		}
	}
}

// P9.3: each token's text stands in the text at its place; tokens are one behind the other, with blanks alone between.
func TestTheoremOfPlaces(t *testing.T) {
	for _, text := range rightTexts() {
		l, _, _ := All(text)
		from := 0
		for _, token := range l {
			if token.At < from || !strings.HasPrefix(text[token.At:], token.Text) {
				t.Fatalf("%q: %v", text, l)
			}
			for at := from; at < token.At; {
				n := slowBlank(text[at:])
				if n == 0 {
					t.Fatalf("%q: %v: no blank at %d", text, l, at)
				}
				at += n
			}
			from = token.At + len(token.Text)
		}
		if last := l[len(l)-1]; last.Kind != kindEnd || last.At != len(text) || last.Text != "" || last.N != 0 {
			t.Fatalf("%q: %v", text, last)
		}
	}
}

// R1: with an error there are no tokens, whatever was read ahead of it; and no field has more than the words give it.
func TestNothingBesideErrors(t *testing.T) {
	c := chance(1)
	for range 20000 {
		text := c.row(c.below(10), pieces())
		l, wrong, at := All(text)
		if wrong != 0 && len(l) != 0 || (wrong == 0) != (at == -1) {
			t.Fatalf("%q: %v, %d, %d", text, l, wrong, at)
		}
		for _, token := range l {
			if token.Kind != kindNumber && token.N != 0 {
				t.Fatalf("%q: %v", text, token)
			}
		}
	}
}

// R3: tokens share no bytes with the text, and are the caller's own.
func TestNothingIsShared(t *testing.T) {
	b := []byte("a 5 0x1f <= ; default kill")
	text := unsafe.String(&b[0], len(b))
	l, _, _ := All(text)
	want, _, _ := slow(strings.Clone(text))
	for i := range b {
		b[i] = '='
	}
	if !slices.Equal(l, want) {
		t.Errorf("the text's own bytes were kept: %v", l)
	}

	l, _, _ = All("a 5")
	clear(l)
	has(t, "a 5", word(0, "a"), num(2, "5", 5), end(3))
}

// R4: what is answered hangs on nothing asked before.
func TestNothingIsKept(t *testing.T) {
	texts := []string{"a", "05", "# no end", "a=", "", strings.Repeat("a", most+1), "0x10 <= b;", "#\n", "a"}
	for _, text := range texts {
		want, wrong, at := All(text)
		for _, other := range texts {
			All(other)
			Is(other)
			if l, again, place := All(text); again != wrong || place != at || !slices.Equal(l,
				want) || Is(text) != slowWord(text) {
				t.Errorf("%.20q behind %.20q: %v, %d, %d", text, other, l, again, place)
			}
		}
	}
}
