package token_test

import (
	"fmt"
	"math"
	"math/big"
	"regexp"
	"slices"
	"strconv"
	"strings"
	"testing"

	"truffle/api"
	"truffle/token"
)

// allSigns are those of the chapter.
const allSigns = "{}()[]<>=;,."

func name(text string, at int) api.Tok { return api.Tok{Kind: api.Name, Text: text, At: at} }

func num(text string, n int64, at int) api.Tok {
	return api.Tok{Kind: api.Num, Text: text, N: n, At: at}
}

func str(means string, at int) api.Tok { return api.Tok{Kind: api.Str, Text: means, At: at} }

func sign(text string, at int) api.Tok { return api.Tok{Kind: api.Sign, Text: text, At: at} }

// hold holds what All tells of a text that is tokens against these.
func hold(t *testing.T, s string, want ...api.Tok) {
	t.Helper()
	if l, at, err := token.All(s); err != api.OK || at != len(s) || !slices.Equal(l, want) {
		t.Fatalf("All(%.40q) is %#v, %d, %d, not %#v", s, l, at, err, want)
	}
}

// holdError holds what All tells of another text against its error, its place, and nothing else.
func holdError(t *testing.T, s string, place int, want api.Errno) {
	t.Helper()
	if l, at, err := token.All(s); err != want || at != place || len(l) != 0 {
		t.Fatalf("All(%.40q) is %#v, %d, %d, not %d, %d", s, l, at, err, place, want)
	}
}

// byWords tells tokens as the chapter's words do, by patterns. Bytes that are no UTF-8 are matched one by one, as others beyond ASCII.
var byWords = struct{ blanks, name, digits, number, sign, str, mark *regexp.Regexp }{
	blanks: regexp.MustCompile(`^(?:[\x20\x09\x0a\x0d]|//[^\n]*)*`),
	name:   regexp.MustCompile(`^[A-Za-z_][A-Za-z_0-9]*`),
	digits: regexp.MustCompile(`^(?:-|[0-9])[0-9]*`),
	number: regexp.MustCompile(`^(?:0|-?[1-9][0-9]*)$`),
	sign:   regexp.MustCompile(`^[{}()\[\]<>=;,.]`),
	str:    regexp.MustCompile(`^"((?:[\x20\x21\x23-\x5b\x5d-\x7e]|[^\x00-\x7f]|\\["\\n]|\\x[0-9a-f]{2})*)"`),
	mark:   regexp.MustCompile(`\\(?:x..|.)`),
}

// wantMeaning is what a string's inside means.
func wantMeaning(inside string) string {
	return byWords.mark.ReplaceAllStringFunc(inside, func(m string) string {
		switch m[1] {
		case 'n':
			return "\n"
		case 'x':
			n, _ := strconv.ParseUint(m[2:], 16, 8)
			return string([]byte{byte(n)})
		}
		return m[1:]
	})
}

// wantNumber is the number of digits, with a sign or not, if they are one.
func wantNumber(text string) (int64, bool) {
	n, ok := new(big.Int).SetString(text, 10)
	if !ok || !byWords.number.MatchString(text) || !n.IsInt64() {
		return 0, false
	}
	return n.Int64(), true
}

// wantToken is the token that a text begins with, how many bytes it has, and whether there is one.
func wantToken(s string) (api.Tok, int, bool) {
	if m := byWords.name.FindString(s); m != "" {
		return name(m, 0), len(m), true
	}
	if m := byWords.digits.FindString(s); m != "" {
		n, ok := wantNumber(m)
		return num(m, n, 0), len(m), ok
	}
	if m := byWords.sign.FindString(s); m != "" {
		return sign(m, 0), len(m), true
	}
	if m := byWords.str.FindStringSubmatch(s); m != nil {
		return str(wantMeaning(m[1]), 0), len(m[0]), true
	}
	return api.Tok{}, 0, false
}

// want is what P6.1 asks.
func want(s string) ([]api.Tok, int, api.Errno) {
	if len(s) > 5000 {
		return nil, 0, api.ErrLong
	}
	var l []api.Tok
	for at := 0; ; {
		at += len(byWords.blanks.FindString(s[at:]))
		if at == len(s) {
			return l, at, api.OK
		}
		tok, long, ok := wantToken(s[at:])
		if !ok {
			return nil, at, api.ErrForm
		}
		if len(l) == 1000 {
			return nil, at, api.ErrLong
		}
		tok.At = at
		l = append(l, tok)
		at += long
	}
}

// holdWords holds All against what P6.1 asks.
func holdWords(t *testing.T, s string) {
	t.Helper()
	l, at, err := want(s)
	if err != api.OK {
		holdError(t, s, at, err)
		return
	}
	hold(t, s, l...)
}

// P6.1: ordinary texts, and all kinds of tokens.
func TestTextsOfTokens(t *testing.T) {
	hold(t, "a = -5;", name("a", 0), sign("=", 2), num("-5", -5, 4), sign(";", 6))
	hold(t, "message A { int64 a = 1; }",
		name("message", 0), name("A", 8), sign("{", 10), name("int64", 12), name("a", 18), sign("=", 20), num("1", 1, 22), sign(";", 23), sign("}", 25))
	hold(t, "map<string,A>m=2;",
		name("map", 0), sign("<", 3), name("string", 4), sign(",", 10), name("A", 11), sign(">", 12), name("m", 13), sign("=", 14), num("2", 2, 15), sign(";", 16))
	hold(t, "(get (. m[\"k\"]) -1)",
		sign("(", 0), name("get", 1), sign("(", 5), sign(".", 6), name("m", 8), sign("[", 9), str("k", 10), sign("]", 13), sign(")", 14), num("-1", -1, 16), sign(")", 18))
	hold(t, "  a // b\n\tc\r\n", name("a", 2), name("c", 10))
}

// P6.1: each token as long as it can be, without blanks between.
func TestTokensAsLongAsTheyCanBe(t *testing.T) {
	hold(t, "ab", name("ab", 0))
	hold(t, "a1_2B", name("a1_2B", 0))
	hold(t, "1a", num("1", 1, 0), name("a", 1))
	hold(t, "12_3", num("12", 12, 0), name("_3", 2))
	hold(t, "0x1f", num("0", 0, 0), name("x1f", 1))
	hold(t, "1e5", num("1", 1, 0), name("e5", 1))
	hold(t, "1.5", num("1", 1, 0), sign(".", 1), num("5", 5, 2))
	hold(t, "-1-2", num("-1", -1, 0), num("-2", -2, 2))
	hold(t, "3-4", num("3", 3, 0), num("-4", -4, 1))
	hold(t, "a-4", name("a", 0), num("-4", -4, 1))
	hold(t, "a4-4", name("a4", 0), num("-4", -4, 2))
	hold(t, "0-5", num("0", 0, 0), num("-5", -5, 1))
	hold(t, `a"b"c`, name("a", 0), str("b", 1), name("c", 4))
	hold(t, `"a""b"`, str("a", 0), str("b", 3))
	hold(t, `1"2"3`, num("1", 1, 0), str("2", 1), num("3", 3, 4))
	hold(t, "<<==", sign("<", 0), sign("<", 1), sign("=", 2), sign("=", 3))
	hold(t, "...", sign(".", 0), sign(".", 1), sign(".", 2))
}

// P6.1: texts of no token, and comments that end, and do not.
func TestBlanks(t *testing.T) {
	for _, s := range []string{"", " ", "\t", "\n", "\r", " \t\n\r ", "//", "// a", "//\n", "// a\n", "//\n//", "// a\n // b", "///", "// \"", "// ?\n", "//\x00\x7f\x80\xff\x0b", "// a // b", "//\r\n"} {
		hold(t, s)
	}
	hold(t, "// a\nb", name("b", 5))
	hold(t, "// a\rb")
	hold(t, "//\nb//", name("b", 3))
	hold(t, "b//c\n", name("b", 0))
	hold(t, "b//c", name("b", 0))
	hold(t, "1//2\n3", num("1", 1, 0), num("3", 3, 5))
	hold(t, "=//=\n=", sign("=", 0), sign("=", 5))
	hold(t, "\"//a\"//b", str("//a", 0))
	hold(t, "\"\" // \"\n\"\"", str("", 0), str("", 8))
	hold(t, "//1\n//2\n\n a//3\n//4", name("a", 10))
}

// P6.1: a '/' that begins no comment, and its place.
func TestSlashesThatBeginNothing(t *testing.T) {
	holdError(t, "/", 0, api.ErrForm)
	holdError(t, "a/", 1, api.ErrForm)
	holdError(t, "a /b", 2, api.ErrForm)
	holdError(t, "/ /", 0, api.ErrForm)
	holdError(t, "/\n/", 0, api.ErrForm)
	holdError(t, "//\n/", 3, api.ErrForm)
	holdError(t, "// a\n /* b */", 6, api.ErrForm)
}

// P6.1: what each byte begins, alone, and ahead of others.
func TestEachByte(t *testing.T) {
	for x := range 256 {
		c := byte(x)
		s := string([]byte{c})
		letter := 'A' <= c && c <= 'Z' || 'a' <= c && c <= 'z' || c == '_'
		digit := '0' <= c && c <= '9'
		switch {
		case letter:
			hold(t, s, name(s, 0))
			hold(t, s+"9", name(s+"9", 0))
		case digit:
			hold(t, s, num(s, int64(c-'0'), 0))
			hold(t, "a"+s, name("a"+s, 0))
		case strings.IndexByte(allSigns, c) >= 0:
			hold(t, s, sign(s, 0))
			hold(t, s+s, sign(s, 0), sign(s, 1))
		case c == ' ', c == '\t', c == '\n', c == '\r':
			hold(t, s)
			hold(t, "a"+s+"b", name("a", 0), name("b", 2))
		default:
			holdError(t, s, 0, api.ErrForm)
			holdError(t, "a"+s, 1, api.ErrForm)
			holdError(t, " // b\n"+s+"\x00", 6, api.ErrForm)
		}
	}
}

// P6.1: a name of each two bytes that may be in one, and signs of UTF-8 that may not.
func TestNames(t *testing.T) {
	const letters = "ABCDEFGHIJKLMNOPQRSTUVWXYZabcdefghijklmnopqrstuvwxyz_"
	for _, first := range letters {
		for _, next := range letters + "0123456789" {
			s := string(first) + string(next)
			hold(t, s, name(s, 0))
		}
	}
	for _, s := range []string{"_", "__", "_1", "a_1_", "Z", strings.Repeat("a", 5000)} {
		hold(t, s, name(s, 0))
	}
	holdError(t, "é", 0, api.ErrForm)
	holdError(t, "aé", 1, api.ErrForm)
	holdError(t, "\u0661", 0, api.ErrForm)
	holdError(t, "\uFEFFa", 0, api.ErrForm)
	holdError(t, "a\u00a0b", 1, api.ErrForm)
}

// P6.1: numbers that may be.
func TestNumbers(t *testing.T) {
	for s, n := range map[string]int64{
		"0": 0, "1": 1, "-1": -1, "9": 9, "10": 10, "-10": -10, "100": 100, "1234567890": 1234567890,
		"9223372036854775807": math.MaxInt64, "9223372036854775806": math.MaxInt64 - 1, "-9223372036854775808": math.MinInt64, "-9223372036854775807": math.MinInt64 + 1,
		"4294967296": 1 << 32, "-2147483649": -1<<31 - 1,
	} {
		hold(t, s, num(s, n, 0))
		hold(t, " "+s+";", num(s, n, 1), sign(";", 1+len(s)))
	}
	hold(t, "0 0", num("0", 0, 0), num("0", 0, 2))
	hold(t, "0//\n1", num("0", 0, 0), num("1", 1, 4))
}

// P6.1: digits that are no number, and a '-' without digits; the place is where they begin.
func TestWhatIsNoNumber(t *testing.T) {
	for _, s := range []string{
		"-", "--", "--1", "- 1", "-a", "-\"1\"", "-//\n1", "-.5", "-_",
		"-0", "-00", "-01", "00", "01", "007", "000000000000000000000",
		"9223372036854775808", "9223372036854775809", "-9223372036854775809", "-9223372036854775810", "9999999999999999999", "10000000000000000000",
		"18446744073709551615", "18446744073709551616", "18446744073709551617", "-18446744073709551616", "340282366920938463463374607431768211456",
		"09223372036854775807", "-09", "-0a", "00a", "00.5", strings.Repeat("1", 4000), "-" + strings.Repeat("9", 4000), strings.Repeat("0", 4000),
	} {
		holdError(t, s, 0, api.ErrForm)
		holdError(t, "a = "+s, 4, api.ErrForm)
		holdError(t, s+" ?", 0, api.ErrForm)
	}
	holdError(t, "5-", 1, api.ErrForm)
	holdError(t, "5 - 3", 2, api.ErrForm)
	holdError(t, "+5", 0, api.ErrForm)
	holdError(t, "a 0 00", 4, api.ErrForm)
}

// P6.1: numbers at and about each power of 2, and of 10, on both sides of the edges.
func TestNumbersByHowGreat(t *testing.T) {
	for _, base := range []int64{2, 10} {
		p := big.NewInt(1)
		for range 70 {
			for d := int64(-2); d <= 2; d++ {
				n := new(big.Int).Add(p, big.NewInt(d))
				holdWords(t, n.String())
				holdWords(t, n.Neg(n).String())
			}
			p = new(big.Int).Mul(p, big.NewInt(base))
		}
	}
}

// P6.1: what strings mean, by their marks, and by bytes that stand as they are.
func TestStrings(t *testing.T) {
	for s, means := range map[string]string{
		`""`: "", `" "`: " ", `"a"`: "a", `"a b"`: "a b", `"//"`: "//", `"'"`: "'", `"~"`: "~",
		`"\""`: `"`, `"\\"`: `\`, `"\n"`: "\n", `"\x00"`: "\x00", `"\xff"`: "\xff", `"\x0a"`: "\n", `"\xa0"`: "\xa0", `"\x22"`: `"`, `"\x5c"`: `\`, `"\x41"`: "A",
		`"\\n"`: `\n`, `"\\\\"`: `\\`, `"\\\""`: `\"`, `"\x0aa"`: "\na", `"\x5cn"`: `\n`, `"\xc3\xa9"`: "é", `"\nn"`: "\nn", `"x41"`: "x41",
		"\"é→\U0001f600\"": "é→\U0001f600", "\"\x80\xff\xc3\"": "\x80\xff\xc3", "\"\u0080\"": "\u0080", "\"\uFFFD\"": "\uFFFD",
	} {
		hold(t, s, str(means, 0))
		hold(t, "a "+s+";", name("a", 0), str(means, 2), sign(";", 2+len(s)))
	}
}

// P6.1: strings that do not end, or have what may not be; the place is where they begin.
func TestWhatIsNoString(t *testing.T) {
	for _, s := range []string{
		`"`, `"a`, `"\"`, `"\`, `"a\\\"`, `"\n`, `"\x`, `"\x4`, `"\x41`, `"a // b`, "\"a\n", "\"a\nb\"", "\"\r\"", "\"\t\"", "\"\x00\"", "\"\x1f\"", "\"\x7f\"",
		`"\x"`, `"\x4"`, `"\x4g"`, `"\xg4"`, `"\xAF"`, `"\xaF"`, `"\xFa"`, `"\x 4"`, `"\x4 "`, `"\X41"`, `"\x-1"`, `"\x+1"`, `"\x0x"`, `"\x/0"`, `"\x:0"`, "\"\\x`0\"", `"\x0/"`, `"\x0:"`, "\"\\x0`\"", "\"\\x\xff0\"",
		`"\N"`, `"\t"`, `"\r"`, `"\0"`, `"\a"`, `"\'"`, `"\ "`, `"\/"`, `"\u0041"`, "\"\\\n\"", "\"\\é\"", "\"\\\x00\"",
	} {
		holdError(t, s, 0, api.ErrForm)
		holdError(t, "a = "+s, 4, api.ErrForm)
		holdError(t, "\"\" "+s, 3, api.ErrForm)
	}
	holdError(t, "'a'", 0, api.ErrForm)
	holdError(t, `"a" "`, 4, api.ErrForm)
	holdError(t, `"a"b"`, 4, api.ErrForm)
	holdError(t, `\n`, 0, api.ErrForm)
}

// P6.1: each byte within a string, and behind a '\'.
func TestEachByteOfAString(t *testing.T) {
	marks := map[byte]string{'"': `"`, '\\': `\`, 'n': "\n"}
	for x := range 256 {
		c := byte(x)
		one := string([]byte{c})
		if c >= 32 && c != 127 && c != '"' && c != '\\' {
			hold(t, `"`+one+`"`, str(one, 0))
			hold(t, `"a`+one+`b"`, str("a"+one+"b", 0))
		} else if c != '"' && c != '\\' {
			holdError(t, `"`+one+`"`, 0, api.ErrForm)
			holdError(t, ` "a`+one+`b"`, 1, api.ErrForm)
		}
		if means, ok := marks[c]; ok {
			hold(t, `"\`+one+`"`, str(means, 0))
			hold(t, `"a\`+one+`b"`, str("a"+means+"b", 0))
			continue
		}
		holdError(t, `"\`+one+`"`, 0, api.ErrForm)
		holdError(t, ` "a\`+one+`g"`, 1, api.ErrForm)
	}
}

// P6.1: all two bytes behind '\x'.
func TestAllMarksByNumber(t *testing.T) {
	const halves = "0123456789abcdef"
	for high := range 256 {
		for low := range 256 {
			h, l := strings.IndexByte(halves, byte(high)), strings.IndexByte(halves, byte(low))
			s := `"\x` + string([]byte{byte(high), byte(low)}) + `"`
			if h < 0 || l < 0 {
				holdError(t, s, 0, api.ErrForm)
				continue
			}
			hold(t, s, str(string([]byte{byte(16*h + l)}), 0))
		}
	}
}

// P6.1: texts of 5000 bytes, and of 5001, whatever these are.
func TestLongTexts(t *testing.T) {
	hold(t, strings.Repeat(" ", 5000))
	hold(t, strings.Repeat("a", 5000), name(strings.Repeat("a", 5000), 0))
	hold(t, "//"+strings.Repeat("é", 2499))
	hold(t, `"`+strings.Repeat("b", 4998)+`"`, str(strings.Repeat("b", 4998), 0))
	hold(t, strings.Repeat("\n", 4999)+"1", num("1", 1, 4999))
	holdError(t, strings.Repeat(" ", 4999)+"?", 4999, api.ErrForm)
	holdError(t, `"`+strings.Repeat("b", 4999), 0, api.ErrForm)
	for _, s := range []string{
		strings.Repeat(" ", 5001), strings.Repeat("a", 5001), "?" + strings.Repeat(" ", 5000), strings.Repeat("a ", 2500) + "?", "//" + strings.Repeat("é", 2500),
		strings.Repeat("\n", 5000) + "1", strings.Repeat("1", 5001), strings.Repeat(".", 5001), `"` + strings.Repeat("b", 5000), strings.Repeat("a", 100000), strings.Repeat("\x00", 5001),
	} {
		holdError(t, s, 0, api.ErrLong)
	}
}

// P6.1: 1000 tokens, and 1001; what is no token is told as that, if it is not behind the 1001st.
func TestManyTokens(t *testing.T) {
	for _, one := range []string{"a ", "0 ", `""`, ";", "a;", "-1", "//\n.", " [ "} {
		l, _, _ := want(one)
		many := strings.Repeat(one, 1000/len(l))
		all, _, err := want(many)
		if err != api.OK || len(all) != 1000 {
			t.Fatalf("%q is not 1000 tokens", one)
		}
		hold(t, many, all...)
		hold(t, many+" // b", all...)
		holdError(t, many+" c", len(many)+1, api.ErrLong)
		holdError(t, many+"// b\n\"c\"d", len(many)+5, api.ErrLong)
		holdError(t, many+" ,,", len(many)+1, api.ErrLong)
		holdError(t, many+" , ?", len(many)+1, api.ErrLong)
		holdError(t, many+" ?", len(many)+1, api.ErrForm)
		holdError(t, many+" 00", len(many)+1, api.ErrForm)
		holdError(t, many+" \"c", len(many)+1, api.ErrForm)
		holdError(t, "? "+many+" c", 0, api.ErrForm)
	}
	holdError(t, strings.Repeat("[", 5000), 1000, api.ErrLong)
}

// P6.1: the first of what is wrong is told.
func TestTheFirstPlace(t *testing.T) {
	holdError(t, "a ? 00", 2, api.ErrForm)
	holdError(t, "a 00 ?", 2, api.ErrForm)
	holdError(t, "a \"b ?", 2, api.ErrForm)
	holdError(t, "a;\n  b = - 5;\n  ?", 9, api.ErrForm)
	holdError(t, "// ?\n//\n\"//\n", 8, api.ErrForm)
}

// texts are all of some pieces, put together of at most so many.
func texts(pieces []string, most int) []string {
	l := []string{""}
	for last := l; most > 0; most-- {
		var next []string
		for _, s := range last {
			for _, p := range pieces {
				next = append(next, s+p)
			}
		}
		l, last = append(l, next...), next
	}
	return l
}

// P6.1: all short texts of bytes that tell something.
func TestAllShortTexts(t *testing.T) {
	for _, s := range texts([]string{"a", "x", "n", "_", "0", "1", "-", `"`, `\`, "/", "\n", " ", "{", "?", "\xff"}, 4) {
		holdWords(t, s)
	}
	for _, s := range texts([]string{`"`, `\`, "x", "n", "0", "f", "/"}, 6) {
		holdWords(t, s)
	}
	for _, s := range texts([]string{"-", "0", "9", "a", " ", "//", "\n"}, 5) {
		holdWords(t, s)
	}
}

// P6.2: Quote, by examples.
func TestQuoteExamples(t *testing.T) {
	for s, quoted := range map[string]string{
		"": `""`, "a": `"a"`, "a b": `"a b"`, `"`: `"\""`, `\`: `"\\"`, "\n": `"\n"`, `\n`: `"\\n"`, "//": `"//"`, "'": `"'"`,
		"\x00": `"\x00"`, "\t": `"\x09"`, "\r": `"\x0d"`, "\x1f": `"\x1f"`, "\x7f": `"\x7f"`, "\x80": `"\x80"`, "\xff": `"\xff"`,
		"é": `"\xc3\xa9"`, "\uFFFD": `"\xef\xbf\xbd"`, "a\"\\\n\té": `"a\"\\\n\x09\xc3\xa9"`, `""`: `"\"\""`,
	} {
		if got := token.Quote(s); got != quoted {
			t.Errorf("Quote(%q) is %s, not %s", s, got, quoted)
		}
	}
}

// wantQuoted is what P6.2 asks of one byte.
func wantQuoted(c byte) string {
	switch {
	case c == '"':
		return `\"`
	case c == '\\':
		return `\\`
	case c == 10:
		return `\n`
	case c >= 32 && c <= 126:
		return string([]byte{c})
	}
	return fmt.Sprintf(`\x%02x`, c)
}

// P6.2: each two bytes quoted. P6.3: read again they are one token, that means them.
func TestAllTwoBytesQuoted(t *testing.T) {
	for x := range 256 {
		for y := range 256 {
			s := string([]byte{byte(x), byte(y)})
			quoted := token.Quote(s)
			if quoted != `"`+wantQuoted(byte(x))+wantQuoted(byte(y))+`"` {
				t.Fatalf("Quote(%q) is %s", s, quoted)
			}
			hold(t, quoted, str(s, 0))
		}
	}
}

// P6.2, P6.3: every byte quoted alone, and all of them together, and read again, also between others.
func TestEveryByteQuoted(t *testing.T) {
	var all []byte
	for x := range 256 {
		all = append(all, byte(x))
		for _, s := range []string{string(all[x:]), string(all)} {
			quoted := token.Quote(s)
			hold(t, quoted, str(s, 0))
			hold(t, "a"+quoted+quoted+"1", name("a", 0), str(s, 1), str(s, 1+len(quoted)), num("1", 1, 1+2*len(quoted)))
			hold(t, token.Quote(quoted), str(quoted, 0))
		}
	}
}

// P6.2: Quote of a text that is longer than any that has tokens.
func TestLongQuotes(t *testing.T) {
	if got := token.Quote(strings.Repeat("a", 10000)); got != `"`+strings.Repeat("a", 10000)+`"` {
		t.Errorf("of 10000 letters %d bytes", len(got))
	}
	if got := token.Quote(strings.Repeat("\xff", 10000)); got != `"`+strings.Repeat(`\xff`, 10000)+`"` {
		t.Errorf("of 10000 bytes %d", len(got))
	}
}

// P6.2: Digits at and about each power of 2 and 10. P6.3: a number's text is one token, that means it.
func TestDigits(t *testing.T) {
	if got := token.Digits(-1 << 63); got != "-9223372036854775808" {
		t.Errorf("the least one is %s", got)
	}
	numbers := []int64{0, 1, -1, 300, math.MaxInt64, math.MinInt64, math.MinInt64 + 1}
	for i := range 63 {
		p := int64(1) << i
		numbers = append(numbers, p-1, p, p+1, -p-1, -p, -p+1)
	}
	for p := int64(1); p <= math.MaxInt64/10; p *= 10 {
		numbers = append(numbers, p*10-1, p*10, p*10+1, 1-p*10, -p*10, -p*10-1)
	}
	for _, n := range numbers {
		text := token.Digits(n)
		if text != big.NewInt(n).String() {
			t.Errorf("Digits(%d) is %s", n, text)
		}
		hold(t, text, num(text, n, 0))
		hold(t, "<"+text+">", sign("<", 0), num(text, n, 1), sign(">", 1+len(text)))
	}
}

// written is a text of tokens, written as they are.
func written(tok api.Tok) string {
	switch tok.Kind {
	case api.Str:
		return token.Quote(tok.Text)
	case api.Num:
		return token.Digits(tok.N)
	}
	return tok.Text
}

// P6.3: which blanks stand between tokens, ahead of them and behind does not matter, but for the places.
func TestBlanksDoNotMatter(t *testing.T) {
	const s = "message A_1 { // x\n repeated int64 a = -7; }\t\"é\\\"\\\\\\n\\x0f//\" 0 x.y[\"k\"] \"\" \"\" -1"
	l, _, err := token.All(s)
	if err != api.OK || len(l) != 21 {
		t.Fatalf("%d tokens, %d", len(l), err)
	}
	for _, blank := range []string{" ", "\t", "\n", "\r", "\r\n", "//\n", "// \"a\" ?\n", " \t\n\r//\r //\n\n", "    "} {
		text, moved := blank, []api.Tok{}
		for _, tok := range l {
			tok.At = len(text)
			moved = append(moved, tok)
			text += written(tok) + blank
		}
		hold(t, text, moved...)
	}
}

// P6.3: a text without tokens is one whatever blanks it is of.
func TestBlanksAlone(t *testing.T) {
	for _, s := range texts([]string{" ", "\t", "\n", "\r", "//", "//a\n"}, 4) {
		hold(t, s)
	}
}

// R3, R5: an answer is the caller's own, and hangs on nothing that was asked, or changed, before.
func TestAnswersAreTheCallersOwn(t *testing.T) {
	const s = "a = \"b\"; -1"
	first, _, _ := token.All(s)
	kept := slices.Clone(first)
	for i := range first {
		first[i] = api.Tok{Kind: -1, Text: "?", N: -1, At: -1}
	}
	token.All("?")
	second, _, _ := token.All(s)
	third, _, _ := token.All(s)
	second[0].Text = "c"
	if !slices.Equal(third, kept) {
		t.Errorf("%v, not %v", third, kept)
	}
}

func ExampleAll() {
	l, place, err := token.All("a = -5; // five")
	for _, tok := range l {
		fmt.Println(tok.Kind, tok.Text, tok.N, tok.At)
	}
	fmt.Println(place, err)
	// Output:
	// 0 a 0 0
	// 3 = 0 2
	// 1 -5 -5 4
	// 3 ; 0 6
	// 15 0
}

func ExampleQuote() {
	fmt.Println(token.Quote("say \"\u00e9\"\n"))
	// Output: "say \"\xc3\xa9\"\n"
}

func ExampleDigits() {
	fmt.Println(token.Digits(-1 << 63))
	// Output: -9223372036854775808
}
