package sexp_test

import (
	"fmt"
	"math"
	"reflect"
	"regexp"
	"slices"
	"strconv"
	"strings"
	"testing"
	"unsafe"

	"truffle/api"
	"truffle/sexp"
	"truffle/token"
)

// name, num, str and sign are nodes that are no lists, list is one of nodes.
func name(text string) api.Node     { return api.Node{Kind: api.Name, Text: text} }
func str(means string) api.Node     { return api.Node{Kind: api.Str, Text: means} }
func sign(text string) api.Node     { return api.Node{Kind: api.Sign, Text: text} }
func list(l ...api.Node) api.Node   { return api.Node{Kind: api.List, L: l} }
func at(n int, x api.Node) api.Node { x.At = n; return x }
func num(n int64) api.Node {
	return api.Node{Kind: api.Num, Text: strconv.FormatInt(n, 10), N: n}
}

// chain is a node within so many lists, alone in each.
func chain(lists int, n api.Node) api.Node {
	for range lists {
		n = list(n)
	}
	return n
}

// chainText is the text of a node within so many lists.
func chainText(lists int, s string) string {
	return strings.Repeat("(", lists) + s + strings.Repeat(")", lists)
}

// own is a node in memory of its own, whose lists without elements are nil, with what is told of where it begins.
func own(n api.Node, begins func(at int) int) api.Node {
	out := api.Node{Kind: n.Kind, Text: strings.Clone(n.Text), N: n.N, At: begins(n.At)}
	for _, x := range n.L {
		out.L = append(out.L, own(x, begins))
	}
	return out
}

// asIs and nowhere tell where a node begins.
func asIs(at int) int { return at }
func nowhere(int) int { return 0 }

// alike tells whether two nodes are the same, places too; lists without elements may be nil.
func alike(a, b api.Node) bool {
	return reflect.DeepEqual(own(a, asIs), own(b, asIs))
}

// wantSame is what P14.2 asks of Same.
func wantSame(a, b api.Node) bool {
	return reflect.DeepEqual(own(a, nowhere), own(b, nowhere))
}

// isName and isNumber tell names and numbers, as the words of tokens do.
var (
	isName   = regexp.MustCompile(`^[A-Za-z_][A-Za-z0-9_]*$`)
	isNumber = regexp.MustCompile(`^(?:0|-?[1-9][0-9]*)$`)
)

// wantText tells whether the chapter allows a node's Text and N.
func wantText(n api.Node) bool {
	switch n.Kind {
	case api.Name:
		return isName.MatchString(n.Text) && len(n.Text) <= 5000 && n.N == 0
	case api.Num:
		read, err := strconv.ParseInt(n.Text, 10, 64)
		return isNumber.MatchString(n.Text) && err == nil && read == n.N
	case api.Str:
		return n.N == 0
	case api.Sign:
		return n.Text == "." && n.N == 0
	}
	return n.Text == "" && n.N == 0
}

// wantNest is how many lists stand within one another in a node.
func wantNest(n api.Node) int {
	nest := 0
	for _, x := range n.L {
		nest = max(nest, wantNest(x))
	}
	if n.Kind == 4 {
		nest++
	}
	return nest
}

// wantParts tells whether the chapter allows a node, and all that are in it, but for how many lists stand within one another.
func wantParts(n api.Node) bool {
	if n.Kind < 0 || n.Kind > 4 || n.Kind != 4 && len(n.L) > 0 || !wantText(n) {
		return false
	}
	return !slices.ContainsFunc(n.L, func(x api.Node) bool { return !wantParts(x) })
}

// wantMay is what P14.2 asks of May.
func wantMay(n api.Node) bool {
	return wantParts(n) && wantNest(n) <= 16
}

// wantPrinted is what P14.2 asks of Print, of a node that may be.
func wantPrinted(n api.Node) string {
	switch n.Kind {
	case api.Str:
		return token.Quote(n.Text)
	case api.List:
		var parts []string
		for _, x := range n.L {
			parts = append(parts, wantPrinted(x))
		}
		return "(" + strings.Join(parts, " ") + ")"
	}
	return n.Text
}

// codeOf is a byte for each token: its Sign, or n, if it is none.
func codeOf(toks []api.Tok) string {
	code := make([]byte, len(toks))
	for i, tok := range toks {
		code[i] = 'n'
		if tok.Kind == api.Sign {
			code[i] = tok.Text[0]
		}
	}
	return string(code)
}

// opened is how many lists are open behind tokens.
func opened(code string) int {
	return strings.Count(code, "(") - strings.Count(code, ")")
}

// wantErrorAt is the error at the last token of some, of which none ahead has one.
func wantErrorAt(code string) api.Errno {
	ahead, last := code[:len(code)-1], code[len(code)-1]
	open := opened(ahead)
	switch {
	case ahead != "" && open == 0:
		return api.ErrForm
	case last == '(' && open == 16:
		return api.ErrLong
	case last == ')' && open == 0, strings.IndexByte("n.()", last) < 0:
		return api.ErrForm
	}
	return api.OK
}

// wantNodes are the nodes of tokens that are any nodes.
func wantNodes(toks []api.Tok) []api.Node {
	code := codeOf(toks)
	var l []api.Node
	for from := 0; from < len(toks); {
		upto := from + 1
		for opened(code[from:upto]) > 0 {
			upto++
		}
		tok := toks[from]
		n := api.Node{Kind: tok.Kind, Text: tok.Text, N: tok.N, At: tok.At}
		if code[from] == '(' {
			n = api.Node{Kind: api.List, At: tok.At, L: wantNodes(toks[from+1 : upto-1])}
		}
		l = append(l, n)
		from = upto
	}
	return l
}

// wantParsed is what P14.1 asks.
func wantParsed(s string) (api.Node, int, api.Errno) {
	toks, place, err := token.All(s)
	if err != api.OK {
		return api.Node{}, place, err
	}
	code := codeOf(toks)
	for i, tok := range toks {
		if err := wantErrorAt(code[:i+1]); err != api.OK {
			return api.Node{}, tok.At, err
		}
	}
	if code == "" || opened(code) > 0 {
		return api.Node{}, len(s), api.ErrForm
	}
	return wantNodes(toks)[0], len(s), api.OK
}

// hold holds what Parse tells of a text that is a node against this.
func hold(t *testing.T, s string, want api.Node) {
	t.Helper()
	if n, place, err := sexp.Parse(s); err != api.OK || place != len(s) || !alike(n, want) {
		t.Fatalf("Parse(%.200q) is %+v, %d, %d, not %+v", s, n, place, err, want)
	}
}

// holdError holds what Parse tells of another text against its error, its place, and nothing else.
func holdError(t *testing.T, s string, want int, wantErr api.Errno) {
	t.Helper()
	n, place, err := sexp.Parse(s)
	if err != wantErr || place != want || !reflect.DeepEqual(own(n, asIs), api.Node{}) {
		t.Fatalf("Parse(%.200q) is %+v, %d, %d, not %d, %d", s, n, place, err, want, wantErr)
	}
}

// holdWords holds Parse against what P14.1 asks, and tells where a text is wrong, or how long it is.
func holdWords(t *testing.T, s string) (int, api.Errno) {
	t.Helper()
	n, place, err := wantParsed(s)
	if err != api.OK {
		holdError(t, s, place, err)
		return place, err
	}
	hold(t, s, n)
	return place, err
}

// holdMay holds May and Print against what P14.2 asks, and against one answer. What may be is parsed again as the same (P14.3), and a node stays as it was (R3).
func holdMay(t *testing.T, n api.Node, want bool) {
	t.Helper()
	before := own(n, asIs)
	if wantMay(n) != want {
		t.Fatalf("the words tell %t of %+v", !want, n)
	}
	if may := sexp.May(n); may != want {
		t.Fatalf("May(%+v) is %t", n, may)
	}
	if want {
		holdPrinted(t, n, wantPrinted(n))
	} else if s := sexp.Print(n); s != "" {
		t.Fatalf("Print(%+v) is %q", n, s)
	}
	if !sexp.Same(n, n) || !alike(n, before) {
		t.Fatalf("%+v became %+v", before, n)
	}
}

// tooLong tells whether a text is too long to be parsed, be it by bytes or by tokens.
func tooLong(s string) bool {
	_, _, err := token.All(s)
	return err == api.ErrLong
}

// holdPrinted holds what Print tells of a node that may be against this, and what is parsed of it against the node.
func holdPrinted(t *testing.T, n api.Node, want string) {
	t.Helper()
	s := sexp.Print(n)
	if s != want {
		t.Fatalf("Print(%+v) is %q, not %q", n, s, want)
	}
	if tooLong(s) {
		return
	}
	again, place, err := sexp.Parse(s)
	if err != api.OK || place != len(s) || !sexp.Same(n, again) || !wantSame(n, again) || !sexp.May(again) {
		t.Fatalf("Parse(Print(%+v)) is %+v, %d, %d", n, again, place, err)
	}
	if twice := sexp.Print(again); twice != s {
		t.Fatalf("%q is printed again as %q", s, twice)
	}
}

// holdSame holds Same of two nodes, either way, against what P14.2 asks, and against one answer.
func holdSame(t *testing.T, a, b api.Node, want bool) {
	t.Helper()
	if wantSame(a, b) != want {
		t.Fatalf("the words tell %t of %+v and %+v", !want, a, b)
	}
	if sexp.Same(a, b) != want || sexp.Same(b, a) != want {
		t.Fatalf("Same(%+v, %+v) is not %t", a, b, want)
	}
}

// samples are nodes that may be, of all that there is.
func samples() []api.Node {
	return []api.Node{
		name("a"), name("_"), name("true"), name("A_1z"),
		num(0), num(7), num(-5), num(math.MaxInt64), num(math.MinInt64),
		str(""), str("a b"), str("(. ) \"\\\n\x00\xff// é"), sign("."),
		list(), list(name("a")), list(list()), list(list(), list(list(), num(1)), sign(".")),
		list(name("eq"), list(sign("."), name("a"), list(name("m"), str("k"))), num(-5)),
		list(name("and"), list(name("lt"), num(3), name("a")), list(name("any"), name("r"), list(name("eq"), name("_"), str(")")))),
		chain(15, list()), chain(15, list(num(-1), str("x"), name("y"), sign("."))),
	}
}

// part is one of a node, where it stands, as what may be changed.
type part struct {
	where string
	lists int
	n     *api.Node
}

// parts are a node, and all that are in it.
func parts(n *api.Node, where string, lists int) []part {
	out := []part{{where, lists, n}}
	for i := range n.L {
		out = append(out, parts(&n.L[i], fmt.Sprintf("%s.L[%d]", where, i), lists+1)...)
	}
	return out
}

// lists are all lists that a node has, of any length or room.
func lists(n api.Node) [][]api.Node {
	var out [][]api.Node
	if cap(n.L) > 0 {
		out = append(out, n.L[:cap(n.L)])
	}
	for _, x := range n.L {
		out = append(out, lists(x)...)
	}
	return out
}

// shared tells whether two of some lists have an element in common, room behind them too.
func shared(l [][]api.Node) bool {
	seen := map[uintptr]bool{}
	for _, x := range l {
		for i := range x {
			place := uintptr(unsafe.Pointer(&x[i]))
			if seen[place] {
				return true
			}
			seen[place] = true
		}
	}
	return false
}
