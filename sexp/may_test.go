package sexp_test

import (
	"fmt"
	"math"
	"math/rand/v2"
	"strings"
	"testing"

	"truffle/api"
	"truffle/sexp"
)

// holdInside holds May and Print of a node alone, and inside of lists: first, last, alone and deep.
func holdInside(t *testing.T, n api.Node, want bool) {
	t.Helper()
	holdMay(t, n, want)
	holdMay(t, list(n), want)
	holdMay(t, list(name("a"), n, num(1)), want)
	holdMay(t, list(list(list(), str("s")), list(sign("."), list(n))), want)
	holdMay(t, list(n, n), want)
	holdMay(t, chain(14, n), want)
}

// P14.2: nodes that may be, of each kind, alone and in lists; where they begin does not matter.
func TestNodesThatMayBe(t *testing.T) {
	for _, n := range samples() {
		holdMay(t, n, true)
		for _, begins := range []int{1, -1, math.MaxInt64, math.MinInt64} {
			holdMay(t, at(begins, n), true)
			holdMay(t, own(n, func(int) int { return begins }), true)
		}
		if wantNest(n) <= 2 {
			holdInside(t, n, true)
		}
	}
	holdMay(t, api.Node{Kind: api.List, L: []api.Node{}}, true)
	holdMay(t, api.Node{Kind: api.Name, Text: "a", L: []api.Node{}}, true)
}

// P14.2: kinds that there are not.
func TestKindsOfNodes(t *testing.T) {
	for _, kind := range []int{-1, -2, 5, 6, 100, math.MaxInt64, math.MinInt64} {
		holdInside(t, api.Node{Kind: kind}, false)
		holdInside(t, api.Node{Kind: kind, Text: "a"}, false)
		holdInside(t, api.Node{Kind: kind, Text: "."}, false)
		holdInside(t, api.Node{Kind: kind, Text: "7", N: 7}, false)
		holdInside(t, api.Node{Kind: kind, L: []api.Node{name("a")}}, false)
	}
	holdInside(t, api.Node{}, false)
}

// P14.2: nodes in what is no list.
func TestNodesInWhatIsNoList(t *testing.T) {
	for _, n := range []api.Node{name("a"), num(7), str("s"), str(""), sign(".")} {
		holdInside(t, n, true)
		for _, within := range []api.Node{name("b"), list(), {}, n} {
			n.L = []api.Node{within}
			holdInside(t, n, false)
			n.L = append(n.L, within)
			holdInside(t, n, false)
		}
	}
}

// P14.2: the Text of a Name is the text of just that token.
func TestTextsOfNames(t *testing.T) {
	for _, s := range []string{"a", "_", "a1", "A_b", "true", "eq", strings.Repeat("n", 5000)} {
		holdInside(t, name(s), true)
	}
	for _, s := range []string{"", " ", "a b", " a", "a ", "\ta", "a\n", "a//", "a// b", "// b\na", "7", "-5", "7a", "1_", "-a", "a-b", ".", "(", ")", "(a)", "()", "a)", "a.b", "a.", `"a"`, `"`, "é", "aé", "\xff", "a\x00", "?", strings.Repeat("n", 5001)} {
		holdInside(t, name(s), false)
	}
}

// P14.2: a Name, a Str, a Sign and a list have no number.
func TestNumbersInWhatIsNoNum(t *testing.T) {
	for _, n := range []api.Node{name("a"), str("s"), str("7"), sign("."), list(), list(name("a"))} {
		holdInside(t, n, true)
		for _, with := range []int64{1, -1, 7, math.MaxInt64, math.MinInt64} {
			n.N = with
			holdInside(t, n, false)
		}
	}
}

// P14.2: the Text of a Num is the text of its number.
func TestTextsOfNumbers(t *testing.T) {
	for _, n := range []int64{0, 7, -5, 10, math.MaxInt64, math.MinInt64} {
		holdInside(t, num(n), true)
		s := fmt.Sprint(n)
		for _, other := range []string{"", " " + s, s + " ", "0" + s, "+" + s, s + "0", s + ".", s + "a", s + "// a", s + " 1", "(" + s + ")", `"` + s + `"`, "a", "-", "--1", "-0", "00", "1e3", "0x7", ".", "()"} {
			holdInside(t, api.Node{Kind: api.Num, Text: other, N: n}, false)
		}
	}
	for _, n := range []int64{0, 1, -1, 6, 8, -7, 70, 7 + 1<<32, math.MaxInt64, math.MinInt64} {
		holdInside(t, api.Node{Kind: api.Num, Text: "7", N: n}, false)
	}
	for _, s := range []string{"9223372036854775808", "-9223372036854775809", "18446744073709551616", strings.Repeat("1", 5001)} {
		for _, n := range []int64{0, math.MaxInt64, math.MinInt64} {
			holdInside(t, api.Node{Kind: api.Num, Text: s, N: n}, false)
		}
	}
}

// P14.2: the Text of a Sign is `.`, that of a list empty; that of a Str is any.
func TestTextsOfSignsListsAndStrings(t *testing.T) {
	for _, s := range []string{"(", ")", "{", "}", "[", "]", "<", ">", "=", ";", ",", "..", ". ", " .", ".// a", "a", "7", `"."`, "()", "\x00", "\xff", " ", strings.Repeat(".", 5001)} {
		holdInside(t, sign(s), false)
		holdInside(t, api.Node{Kind: api.List, Text: s}, false)
		holdInside(t, api.Node{Kind: api.List, Text: s, L: []api.Node{name("a")}}, false)
		holdInside(t, str(s), true)
	}
	holdInside(t, sign("."), true)
	holdInside(t, sign(""), false)
	holdInside(t, api.Node{Kind: api.List, Text: "."}, false)
	holdInside(t, str(""), true)
	holdInside(t, str("."), true)
}

// P14.2: at most sixteen lists stand within one another, wherever they do.
func TestHowManyListsStandWithinOneAnother(t *testing.T) {
	for _, n := range []api.Node{name("a"), num(-5), str(")"), sign(".")} {
		for nest := range 17 {
			holdMay(t, chain(nest, n), true)
		}
		for _, nest := range []int{17, 18, 40, 1000} {
			holdMay(t, chain(nest, n), false)
		}
	}
	holdMay(t, chain(16, list()), false)
	holdMay(t, list(chain(15, list()), name("a")), false)
	holdMay(t, list(name("a"), chain(15, list())), false)
	holdMay(t, list(chain(14, list()), chain(14, list())), true)
	holdMay(t, list(chain(15, sign(".")), list(), chain(16, sign("."))), false)
	wide := api.Node{Kind: api.List}
	for range 100 {
		wide.L = append(wide.L, list(list()))
	}
	holdMay(t, chain(13, wide), true)
	holdMay(t, chain(14, wide), false)
}

// R1, P14.2: a list that has itself within it, once or more often, may not be, and this is told.
func TestListsWithinThemselves(t *testing.T) {
	for _, often := range []int{1, 2, 1000} {
		n := list(make([]api.Node, often)...)
		for i := range n.L {
			n.L[i] = n
		}
		if sexp.May(n) || sexp.Print(n) != "" {
			t.Errorf("a list that has itself %d times", often)
		}
	}
}

// R1: nodes that are as deep as the limits allow.
func TestNodesThatAreVeryDeep(t *testing.T) {
	const deep = 1 << 16
	a, b, c := chain(deep, name("a")), at(7, chain(deep, at(9, name("a")))), chain(deep, name("b"))
	if sexp.May(a) || sexp.Print(a) != "" {
		t.Error("a very deep node may be")
	}
	if !sexp.Same(a, b) || sexp.Same(a, c) || sexp.Same(a, chain(deep-1, name("a"))) {
		t.Error("Same of very deep nodes")
	}
}

// P14.2: what is printed, one by one.
func TestPrint(t *testing.T) {
	for want, n := range map[string]api.Node{
		"a": name("a"), "-5": num(-5), "0": num(0), ".": sign("."), "()": list(),
		"9223372036854775807": num(math.MaxInt64), "-9223372036854775808": num(math.MinInt64),
		`""`: str(""), `"a b"`: str("a b"), `"\"\\\n\x00\xff"`: str("\"\\\n\x00\xff"), `"\xc3\xa9"`: str("é"), `"(a // b)"`: str("(a // b)"),
		"(a)": list(name("a")), "(a b)": list(name("a"), name("b")), "(())": list(list()), "(() ())": list(list(), list()), "(a () b)": list(name("a"), list(), name("b")),
		"(. .)": list(sign("."), sign(".")), `(1 "" -1)`: list(num(1), str(""), num(-1)),
		`(eq (. a (m "k")) -5)`: list(name("eq"), list(sign("."), name("a"), list(name("m"), str("k"))), num(-5)),
		chainText(16, "a"):      chain(16, name("a")),
		chainText(16, ""):       chain(15, list()),
	} {
		holdPrinted(t, n, want)
		holdMay(t, n, true)
	}
}

// P14.2, P14.3: what is printed may be too long to be parsed, by bytes or by tokens; just as long as may be it is not.
func TestPrintOfNodesThatAreLong(t *testing.T) {
	holdMay(t, str(strings.Repeat("x", 4998)), true)
	holdMay(t, str(strings.Repeat("x", 4999)), true)
	holdMay(t, str(strings.Repeat("\x00", 1<<16)), true)
	holdMay(t, str(strings.Repeat("é", 10000)), true)
	for _, many := range []int{998, 999, 3000} {
		n := api.Node{Kind: api.List}
		for range many {
			n.L = append(n.L, sign("."))
		}
		holdMay(t, n, true)
	}
	if s := sexp.Print(str(strings.Repeat("x", 4998))); len(s) != 5000 || tooLong(s) {
		t.Errorf("a string of %d bytes", len(s))
	}
}

// P14.2: nodes are the same wherever they, and those in them, begin.
func TestSameWhereverTheyBegin(t *testing.T) {
	all := append(samples(), api.Node{}, api.Node{Kind: -1, Text: "?", N: 3}, api.Node{Kind: 9, L: []api.Node{{}, name("a")}}, chain(20, num(1)), api.Node{Kind: api.Name, Text: "a", L: []api.Node{list(num(2))}})
	for i, a := range all {
		next := 0
		holdSame(t, a, own(a, asIs), true)
		holdSame(t, a, own(a, func(int) int { next++; return next }), true)
		holdSame(t, a, at(-3, a), true)
		for j, b := range all {
			holdSame(t, a, b, i == j)
		}
	}
	holdSame(t, list(), api.Node{Kind: api.List, L: []api.Node{}}, true)
	holdSame(t, list(at(1, name("a"))), at(5, list(at(7, name("a")))), true)
}

// changed are a part of a node, each changed in one thing.
func changed(n api.Node) map[string]api.Node {
	out := map[string]api.Node{}
	with := func(what string, do func(x *api.Node)) {
		x := own(n, asIs)
		do(&x)
		out[what] = x
	}
	with("Kind less", func(x *api.Node) { x.Kind-- })
	with("Kind more", func(x *api.Node) { x.Kind++ })
	with("Text longer", func(x *api.Node) { x.Text += "a" })
	with("Text of a blank ahead", func(x *api.Node) { x.Text = " " + x.Text })
	with("N more", func(x *api.Node) { x.N++ })
	with("N of another half", func(x *api.Node) { x.N ^= 1 << 32 })
	with("L longer", func(x *api.Node) { x.L = append(x.L, api.Node{}) })
	with("L of one more that may be", func(x *api.Node) { x.L = append(x.L, name("a")) })
	if n.Text != "" {
		with("Text shorter", func(x *api.Node) { x.Text = x.Text[1:] })
		with("Text none", func(x *api.Node) { x.Text = "" })
	}
	if len(n.L) > 0 {
		with("L without the first", func(x *api.Node) { x.L = x.L[1:] })
		with("L without the last", func(x *api.Node) { x.L = x.L[:len(x.L)-1] })
		with("L with the first twice", func(x *api.Node) { x.L = append([]api.Node{x.L[0]}, x.L...) })
	}
	if last := len(n.L) - 1; last > 0 && !wantSame(n.L[0], n.L[last]) {
		with("L in another order", func(x *api.Node) { x.L[0], x.L[last] = x.L[last], x.L[0] })
	}
	return out
}

// P14.2: nodes that differ in one part only are not the same, and may be just as the words tell, deep inside as well.
func TestOnePartThatDiffers(t *testing.T) {
	for _, n := range samples() {
		whole := own(n, asIs)
		for _, p := range parts(&whole, "n", 0) {
			was := *p.n
			for what, x := range changed(was) {
				*p.n = x
				if sexp.Same(whole, n) {
					t.Errorf("%s: %s of %+v is the same", what, p.where, n)
				}
				holdSame(t, whole, n, false)
				holdMay(t, whole, wantMay(whole))
			}
			*p.n = was
		}
		holdSame(t, whole, n, true)
	}
}

// someNode is some node by chance, seldom wrong.
func someNode(chance *rand.Rand, lists int) api.Node {
	n := samples()[chance.IntN(13)]
	if lists > 0 && chance.IntN(2) > 0 {
		n = list()
		for range chance.IntN(5) {
			n.L = append(n.L, someNode(chance, lists-1))
		}
	}
	n.At = chance.IntN(10) - 1
	switch chance.IntN(60) {
	case 0:
		n.Kind = chance.IntN(8) - 1
	case 1:
		n.Text = []string{"", "a", "7", ".", "a b", "("}[chance.IntN(6)]
	case 2:
		n.N = int64(chance.IntN(9) - 1)
	case 3:
		n = chain(chance.IntN(17), n)
	}
	return n
}

// P14.2, P14.3: many nodes, some of which may not be, and each two of them.
func TestManyNodesThatMayNotBe(t *testing.T) {
	chance := rand.New(rand.NewPCG(14, 2))
	may, before := 0, list()
	for range 20000 {
		n := someNode(chance, chance.IntN(5))
		want := wantMay(n)
		holdMay(t, n, want)
		if want {
			may++
		}
		holdSame(t, n, before, wantSame(n, before))
		before = n
	}
	if may < 5000 || may > 19000 {
		t.Errorf("%d of 20000 may be", may)
	}
}

// R3: nodes whose lists have room behind them, and are one another's, stay as they were, that room too.
func TestNodesStayAsTheyWere(t *testing.T) {
	room := []api.Node{name("a"), num(1), list(str("s")), at(7, sign(".")), name("behind")}
	want := own(list(room...), asIs)
	inner := list(room[:4]...)
	n := list(inner, inner, list(room[:2]...))
	before := own(n, asIs)
	s := sexp.Print(n)
	if s != `((a 1 ("s") .) (a 1 ("s") .) (a 1))` || !sexp.May(n) || !sexp.Same(n, before) {
		t.Errorf("Print is %q", s)
	}
	if !alike(n, before) || !alike(list(room...), want) {
		t.Errorf("became %+v, %+v", n, room)
	}
}

func ExamplePrint() {
	n, _, _ := sexp.Parse("( eq(. a (m \"k\"))\n-5 )// all")
	fmt.Println(sexp.Print(n), sexp.May(n))
	n.L[2].N = 5
	fmt.Println(sexp.Print(n) == "", sexp.May(n))
	// Output:
	// (eq (. a (m "k")) -5) true
	// true false
}

func ExampleSame() {
	a, _, _ := sexp.Parse("(eq a 5)")
	b, _, _ := sexp.Parse(" ( eq a 5 ) ")
	c, _, _ := sexp.Parse("(eq a 6)")
	fmt.Println(sexp.Same(a, b), sexp.Same(a, c))
	// Output: true false
}
