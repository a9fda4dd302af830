package sexp_test

import (
	"fmt"
	"math"
	"math/rand/v2"
	"strings"
	"testing"

	"truffle/api"
	"truffle/sexp"
	"truffle/token"
)

// P14.1: the example, and a query of everything, with all places.
func TestTextsOfNodes(t *testing.T) {
	hold(t, "(eq a 5)", list(at(1, name("eq")), at(4, name("a")), at(6, num(5))))
	hold(t, " (eq (. a (m \"k\")) -5) ", at(1, list(
		at(2, name("eq")),
		at(5, list(at(6, sign(".")), at(8, name("a")), at(10, list(at(11, name("m")), at(13, str("k")))))),
		at(19, num(-5)))))
	hold(t, "(any r // of all\n\t(lt 3 _))", list(
		at(1, name("any")), at(5, name("r")),
		at(18, list(at(19, name("lt")), at(22, num(3)), at(24, name("_"))))))
	hold(t, "(a\"b\"1.(c)())", list(
		at(1, name("a")), at(2, str("b")), at(5, num(1)), at(6, sign(".")),
		at(7, list(at(8, name("c")))), at(10, list())))
}

// P14.1: texts without tokens end too soon, wherever they end.
func TestTextsWithoutTokens(t *testing.T) {
	holdError(t, "", 0, api.ErrForm)
	holdError(t, " ", 1, api.ErrForm)
	holdError(t, " \t\r\n ", 5, api.ErrForm)
	holdError(t, "//", 2, api.ErrForm)
	holdError(t, "// (a)", 6, api.ErrForm)
	holdError(t, " // a\n//b\n ", 11, api.ErrForm)
	holdError(t, strings.Repeat(" ", 5000), 5000, api.ErrForm)
}

// P14.1: a Name alone, also one that means something elsewhere.
func TestNamesAlone(t *testing.T) {
	for _, s := range []string{"a", "Z", "_", "__1", "true", "false", "eq", "message", "a_1_Z", strings.Repeat("n", 5000)} {
		hold(t, s, name(s))
		hold(t, "// b\n "+s[:1]+" // c", at(6, name(s[:1])))
	}
}

// P14.1: a Num alone, below 0, the greatest one and the least one.
func TestNumbersAlone(t *testing.T) {
	for _, n := range []int64{0, 1, 9, 10, -1, -5, -10, 1 << 32, math.MaxInt64, math.MinInt64, math.MaxInt64 - 1, math.MinInt64 + 1} {
		s := fmt.Sprint(n)
		hold(t, s, api.Node{Kind: api.Num, Text: s, N: n})
		hold(t, " "+s+" ", api.Node{Kind: api.Num, Text: s, N: n, At: 1})
	}
}

// P14.1: a Str alone, with each of its marks, and with what would be nodes elsewhere.
func TestStringsAlone(t *testing.T) {
	for s, means := range map[string]string{
		`""`: "", `"a b"`: "a b", `"("`: "(", `")"`: ")", `"."`: ".", `"7"`: "7", `"(a))"`: "(a))", `"// a"`: "// a", `" "`: " ",
		`"\""`: "\"", `"\\"`: "\\", `"\n"`: "\n", `"\x00"`: "\x00", `"\xff"`: "\xff", `"\x41"`: "A", `"\x5c\x22"`: "\\\"",
		`"a\"b\\c\nd\x0ae"`: "a\"b\\c\nd\ne", "\"\xff\xc3\"": "\xff\xc3", `"é"`: "é",
	} {
		hold(t, s, str(means))
		hold(t, "\t"+s+"//", at(1, str(means)))
		hold(t, "("+s+")", list(at(1, str(means))))
	}
}

// P14.1: the Sign `.` alone is a node; no other Sign is, neither alone nor in a list.
func TestSignsAlone(t *testing.T) {
	hold(t, ".", sign("."))
	hold(t, " . ", at(1, sign(".")))
	hold(t, "(.)", list(at(1, sign("."))))
	hold(t, "(. .)", list(at(1, sign(".")), at(3, sign("."))))
	for _, s := range []string{"{", "}", "[", "]", "<", ">", "=", ";", ","} {
		holdError(t, s, 0, api.ErrForm)
		holdError(t, "  "+s+" a", 2, api.ErrForm)
		holdError(t, "("+s+")", 1, api.ErrForm)
		holdError(t, "(a (b)"+s, 6, api.ErrForm)
		holdError(t, "a"+s, 1, api.ErrForm)
	}
	holdError(t, "(", 1, api.ErrForm)
	holdError(t, ")", 0, api.ErrForm)
}

// P14.1: lists, the empty one, and lists within lists, with the places of all.
func TestLists(t *testing.T) {
	hold(t, "()", list())
	hold(t, " ( ) ", at(1, list()))
	hold(t, "(// )\n)", list())
	hold(t, "(())", list(at(1, list())))
	hold(t, "(()())", list(at(1, list()), at(3, list())))
	hold(t, "( (a) b (c d) )", list(at(2, list(at(3, name("a")))), at(6, name("b")), at(8, list(at(9, name("c")), at(11, name("d"))))))
	hold(t, "(((1) 2) 3)", list(at(1, list(at(2, list(at(3, num(1)))), at(6, num(2)))), at(9, num(3))))
	hold(t, "(1 (2 (3)))", list(at(1, num(1)), at(3, list(at(4, num(2)), at(6, list(at(7, num(3))))))))
	many := api.Node{Kind: api.List}
	for i := range 998 {
		many.L = append(many.L, at(1+2*i, name("a")))
	}
	hold(t, "("+strings.Repeat("a ", 998)+")", many)
}

// placed is a node within so many lists, the outermost one of which begins at a place.
func placed(from, lists int, n api.Node) api.Node {
	if lists == 0 {
		return at(from, n)
	}
	return at(from, list(placed(from+1, lists-1, n)))
}

// P14.1: sixteen lists within one another are a node, whatever is in the innermost one; so are many of sixteen side by side.
func TestSixteenListsWithinOneAnother(t *testing.T) {
	for lists := range 17 {
		hold(t, chainText(lists, "a"), placed(0, lists, name("a")))
		hold(t, "  "+chainText(lists, "-5"), placed(2, lists, num(-5)))
	}
	hold(t, chainText(16, ""), placed(0, 15, list()))
	hold(t, "("+chainText(15, "")+chainText(15, "")+")", list(placed(1, 14, list()), placed(31, 14, list())))
	hold(t, "("+chainText(15, "x")+" "+chainText(15, "y")+"z)", list(placed(1, 15, name("x")), placed(33, 15, name("y")), at(64, name("z"))))
}

// P14.1: a seventeenth list is told where it begins, ahead of what is wrong behind it, behind what is wrong ahead of it.
func TestSeventeenListsWithinOneAnother(t *testing.T) {
	holdError(t, chainText(17, "a"), 16, api.ErrLong)
	holdError(t, chainText(17, ""), 16, api.ErrLong)
	holdError(t, chainText(18, "a"), 16, api.ErrLong)
	holdError(t, "  "+strings.Repeat("( ", 17), 34, api.ErrLong)
	holdError(t, strings.Repeat("(a", 17), 32, api.ErrLong)
	holdError(t, "("+chainText(15, "x")+" "+chainText(16, "y")+")", 48, api.ErrLong)
	for _, wrong := range []string{"", "<", "a <", ") <", ") a", strings.Repeat(")", 18), ")a", "(", chainText(40, "") + ")"} {
		holdError(t, strings.Repeat("(", 17)+wrong, 16, api.ErrLong)
	}
	holdError(t, "(<"+strings.Repeat("(", 17), 1, api.ErrForm)
	holdError(t, ")"+strings.Repeat("(", 17), 0, api.ErrForm)
	holdError(t, "a "+strings.Repeat("(", 17), 2, api.ErrForm)
	holdError(t, chainText(16, "")+strings.Repeat("(", 17), 32, api.ErrForm)
	holdError(t, strings.Repeat("(", 16)+"="+"(", 16, api.ErrForm)
	holdError(t, strings.Repeat("(", 16)+"a", 17, api.ErrForm)
}

// P14.1: what stands behind the one node is told where it begins.
func TestMoreThanOneNode(t *testing.T) {
	nodes := []string{"a", "-5", `"s"`, ".", "()", "(a)", "((b) c)"}
	for _, first := range nodes {
		for _, next := range append(nodes, "(", ")", "<", "))", "(<", strings.Repeat("(", 17)) {
			holdError(t, first+" "+next, len(first)+1, api.ErrForm)
			holdError(t, " "+first+" // c\n"+next+" x", len(first)+7, api.ErrForm)
		}
	}
	holdError(t, "a b c", 2, api.ErrForm)
	holdError(t, "()()", 2, api.ErrForm)
	holdError(t, "1a", 1, api.ErrForm)
}

// P14.1: a `)` with no list open, and lists that are not closed.
func TestListsThatDoNotEnd(t *testing.T) {
	holdError(t, "))", 0, api.ErrForm)
	holdError(t, " )(", 1, api.ErrForm)
	holdError(t, "())", 2, api.ErrForm)
	holdError(t, "(a))", 3, api.ErrForm)
	holdError(t, "a)", 1, api.ErrForm)
	holdError(t, "(a (b)) // c\n )", 14, api.ErrForm)
	holdError(t, "(a", 2, api.ErrForm)
	holdError(t, "(a ", 3, api.ErrForm)
	holdError(t, "(()", 3, api.ErrForm)
	holdError(t, "((a) b // )", 11, api.ErrForm)
	for lists := 1; lists <= 16; lists++ {
		holdError(t, strings.Repeat("(", lists), lists, api.ErrForm)
		holdError(t, strings.Repeat("(", lists)+"a"+strings.Repeat(")", lists-1)+"\n", 2*lists+1, api.ErrForm)
	}
}

// P14.1: token's errors, with their places, also behind tokens that can't follow, and behind a seventeenth list.
func TestErrorsOfTokens(t *testing.T) {
	for _, wrong := range []string{"?", "-", "-a", "00", "-0", "01", "9223372036854775808", "-9223372036854775809", `"`, `"a`, `"\q"`, `"\x4"`, "\"\n\"", "\x00", "/", "é", "#", "'a'"} {
		for _, ahead := range []string{"", " ", "a ", "(", "(a ", "() ", ")", "a b ", "< ", "(a)) ", "({ ", strings.Repeat("(", 17), ") ( = // ?\n"} {
			holdError(t, ahead+wrong, len(ahead), api.ErrForm)
			holdError(t, ahead+wrong+" ) <", len(ahead), api.ErrForm)
		}
	}
}

// P14.1: texts and tokens that are too many, and just as many as may be.
func TestTextsThatAreTooLong(t *testing.T) {
	hold(t, "("+strings.Repeat(" ", 4998)+")", list())
	holdError(t, "("+strings.Repeat(" ", 4999)+")", 0, api.ErrLong)
	hold(t, `"`+strings.Repeat("x", 4998)+`"`, str(strings.Repeat("x", 4998)))
	holdError(t, `"`+strings.Repeat("x", 4999)+`"`, 0, api.ErrLong)
	holdError(t, strings.Repeat("n", 5001), 0, api.ErrLong)
	holdError(t, strings.Repeat(")", 5001), 0, api.ErrLong)
	holdError(t, strings.Repeat("?", 5001), 0, api.ErrLong)
	holdError(t, strings.Repeat("(", 5001), 0, api.ErrLong)
	holdError(t, strings.Repeat("(", 1000), 16, api.ErrLong)
	holdError(t, strings.Repeat("(", 1001), 1000, api.ErrLong)
	holdError(t, strings.Repeat(")", 1000), 0, api.ErrForm)
	holdError(t, strings.Repeat(")", 1001), 1000, api.ErrLong)
	holdWords(t, "("+strings.Repeat("1 ", 998)+")")
	holdError(t, "("+strings.Repeat("1 ", 999)+")", 1999, api.ErrLong)
}

// goOn holds all texts that go on from one by at most so many more tokens.
func goOn(t *testing.T, begun string, more int) {
	t.Helper()
	for _, next := range []string{" a", " -5", ` "("`, " .", "(", ")", " ="} {
		s := begun + next
		place, err := holdWords(t, s)
		if err != api.OK && place < len(s) {
			// What is wrong stays so, whatever stands behind, but for what is no token.
			holdError(t, s+" ) ( x )", place, err)
			holdError(t, s+" ) ?", len(s)+3, api.ErrForm)
			continue
		}
		if more > 1 {
			goOn(t, s, more-1)
		}
	}
}

// P14.1: all short texts, from the beginning on, and from lists on that are open, or have ended.
func TestAllShortTexts(t *testing.T) {
	for begun, more := range map[string]int{
		"": 6, "(a (. b)": 5, "((((": 5, "(((a) 1)": 4, "()": 2, "a": 2, strings.Repeat("(", 15): 4, strings.Repeat("(", 16): 4, strings.Repeat("(", 16) + ")": 4,
	} {
		goOn(t, begun, more)
	}
}

// writer writes nodes as texts, by chance from a seed.
type writer struct {
	*rand.Rand
	text []byte
}

// put writes a token, with blanks ahead, and tells where it begins.
func (w *writer) put(tok string) int {
	w.text = append(w.text, []string{" ", "\n", "\t ", "// )\n", "\r\n"}[w.IntN(5)]...)
	w.text = append(w.text, tok...)
	return len(w.text) - len(tok)
}

// node writes some node, of at most so many lists within one another.
func (w *writer) node(lists int) api.Node {
	n := samples()[w.IntN(13)]
	if lists > 0 && w.IntN(3) > 0 {
		n = list()
		n.At = w.put("(")
		for range w.IntN(5) {
			n.L = append(n.L, w.node(lists-1))
		}
		w.put(")")
		return n
	}
	n.At = w.put(wantPrinted(n))
	return n
}

// P14.1: many nodes, written with any blanks. P14.2, P14.3: each may be, is printed, and is parsed again.
func TestManyNodes(t *testing.T) {
	chance := rand.New(rand.NewPCG(14, 1))
	for range 3000 {
		w := &writer{Rand: chance}
		n := w.node(chance.IntN(7))
		s := string(w.text)
		if tooLong(s) {
			continue
		}
		hold(t, s, n)
		holdWords(t, s)
		holdMay(t, n, true)
	}
}

// P14.1: texts of nodes with each token left away, twice, or another one.
func TestChangedTexts(t *testing.T) {
	for _, n := range samples() {
		s := wantPrinted(n)
		toks, _, _ := token.All(s)
		for i, tok := range toks {
			end := len(s)
			if i+1 < len(toks) {
				end = toks[i+1].At
			}
			this := s[tok.At:end]
			for _, other := range []string{"", this + " " + this, "(", ")", " . ", " < ", " x ", " -1 ", ` "" `, " ? ", strings.Repeat("(", 16), "()"} {
				holdWords(t, s[:tok.At]+other+s[end:])
			}
		}
	}
}

// R3, R5: what Parse answers is the caller's own, its lists share nothing, and it hangs on nothing that was asked, or changed, before.
func TestParsedNodesAreTheCallersOwn(t *testing.T) {
	s := "(a (b (1 2) (3) ()) (c) \"d\" . (() (4 5 6) ((7))))"
	want, _, _ := wantParsed(s)
	first, _, _ := sexp.Parse(s)
	second, _, _ := sexp.Parse(s)
	if shared(append(lists(first), lists(second)...)) {
		t.Error("lists of answers share what is in them, or behind them")
	}
	for _, p := range parts(&first, "n", 0) {
		*p.n = api.Node{Kind: api.Name, Text: "changed", At: -1, L: p.n.L[:0]}
	}
	if !alike(second, want) {
		t.Errorf("another answer became %+v", second)
	}
	sexp.Parse("(a (b")
	hold(t, s, want)
}

func ExampleParse() {
	n, place, err := sexp.Parse("(eq a 5)")
	fmt.Println(n.Kind == api.List, n.L[0].Text, n.L[1].Text, n.L[2].N, n.L[2].At, place, err)
	_, place, err = sexp.Parse("(eq a 5")
	fmt.Println(place, err)
	// Output:
	// true eq a 5 6 8 0
	// 7 4
}
