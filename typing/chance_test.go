package typing_test

import (
	"math/rand/v2"
	"slices"
	"strconv"
	"strings"
	"testing"

	"truffle/api"
	"truffle/sexp"
	"truffle/typing"
)

// nodesOf are the nodes of texts.
func nodesOf(t *testing.T, srcs ...string) []api.Node {
	t.Helper()
	var l []api.Node
	for _, src := range srcs {
		l = append(l, parsed(t, src))
	}
	return l
}

// list is a list of nodes, numbered is one each node of which begins at another place.
func list(l ...api.Node) api.Node { return api.Node{Kind: api.List, L: l} }

func numbered(n api.Node) api.Node {
	last := 4
	return atPlaces(n, func() int { last += 3; return last })
}

// eachList hands on all lists of a first node and up to so many others.
func eachList(first api.Node, others []api.Node, many int, do func(n api.Node)) {
	do(list(first))
	for i := 1; i <= many; i++ {
		at := make([]int, i)
		for next := 0; next >= 0; {
			l := []api.Node{first}
			for _, place := range at {
				l = append(l, others[place])
			}
			do(list(l...))
			for next = i - 1; next >= 0; next-- {
				at[next]++
				if at[next] < len(others) {
					break
				}
				at[next] = 0
			}
		}
	}
}

// P15.2, P15.4: all lists that begin by each name, by others, and by the Sign, of up to two nodes of many kinds, and up to four of some, alone and as what is asked of elements and messages.
func TestAllShortLists(t *testing.T) {
	s := read(t, small)
	firsts := nodesOf(t, append(slices.Clone(heads), ".", "x", "5", "()", `"eq"`, "true", "(. a)")...)
	many := nodesOf(t, "5", "-1", `"x"`, ".", "a", "r", "t", "s", "m", "p", "l", "k", "u", "z", "v", "b", "q", "_", "true", "false", "x", "()", "(.)", "(. s a)", "(. x)", "(. a a)", `(m "k")`, "(k true)", "(n 5)", "(n -1)", "(. (n 5))", `(. (m "k"))`, `(raw "x")`, "(raw a)", "(gt a 3)", "(gt _ 3)", "(has q)", "(has a)", "(any l b)", "(x)")
	few := nodesOf(t, "5", `"x"`, "a", "b", "s", "r", "l", "_", "x", "(k true)", "(not b)")
	errs := map[api.Errno]int{}
	hold := func(n api.Node) {
		errs[holdOf(t, s, 0, numbered(n)).err]++
	}
	within := nodesOf(t, "(any l)", "(any z)", "(any r)")
	for _, first := range firsts {
		eachList(first, many, 2, hold)
		for _, of := range within {
			eachList(first, many, 1, func(n api.Node) { hold(list(append(of.L, n)...)) })
			eachList(first, few, 2, func(n api.Node) { hold(list(append(of.L, n)...)) })
		}
		eachList(first, few[:8], 3, hold)
	}
	eachList(firsts[slices.Index(heads, "and")], few[:6], 4, hold)
	eachList(firsts[len(heads)], few[4:], 4, hold)
	if errs[api.OK] < 500 || errs[api.ErrType] < 10000 || errs[api.ErrNone] < 1000 || len(errs) != 3 {
		t.Errorf("told: %v", errs)
	}
}

// chance makes nodes and queries by chance from a seed.
type chance struct {
	*rand.Rand
	s api.Schema
}

func newChance(s api.Schema, seed uint64) chance {
	return chance{rand.New(rand.NewPCG(15, seed)), s}
}

// one is one of some.
func one[T any](c chance, l ...T) T { return l[c.IntN(len(l))] }

// word, number and quoted are nodes alone.
func word(s string) api.Node   { return api.Node{Kind: api.Name, Text: s} }
func quoted(s string) api.Node { return api.Node{Kind: api.Str, Text: s} }
func (c chance) number() api.Node {
	n, _, _ := sexp.Parse(one(c, "0", "1", "2", "5", "-1", "4294967295", "4294967296", "-9223372036854775808"))
	return n
}

// path is a path of up to three steps from a message, its last field, and whether that is one of which something is so.
func (c chance) path(m int, is func(f api.FieldDef, keyed bool) bool) (api.Node, api.FieldDef, bool) {
	for range 50 {
		l, to := []api.Node{{Kind: api.Sign, Text: "."}}, m
		for range 1 + c.IntN(3) {
			if len(c.s.M[to].F) == 0 {
				break
			}
			f := one(c, c.s.M[to].F...)
			keyed := f.Key != api.NoKey && c.IntN(4) > 0
			l = append(l, c.step(f, keyed))
			if is(f, keyed) && c.IntN(3) > 0 {
				if len(l) == 2 && l[1].Kind == api.Name && c.IntN(2) > 0 {
					return l[1], f, true
				}
				return list(l...), f, true
			}
			if f.Kind != api.Sub || !wantOne(f, keyed) {
				break
			}
			to = f.Ref
		}
	}
	return word("x"), api.FieldDef{}, false
}

func (c chance) step(f api.FieldDef, keyed bool) api.Node {
	if !keyed {
		return word(f.Name)
	}
	switch f.Key {
	case api.Text:
		return list(word(f.Name), quoted(one(c, "", "k", "\xff")))
	case api.Flag:
		return list(word(f.Name), word(one(c, "true", "false")))
	}
	return list(word(f.Name), parsedNumber(c.Int64N(100)))
}

func parsedNumber(n int64) api.Node {
	return api.Node{Kind: api.Num, Text: strconv.FormatInt(n, 10), N: n}
}

// query is a node that is a query of a type at a place, most often.
func (c chance) query(p spot, ty, deep int) api.Node {
	if !p.message && c.IntN(3) == 0 && typeOf[p.kind] == ty {
		return word("_")
	}
	if deep > 0 && ty == api.TBool && c.IntN(6) > 0 {
		return c.bigger(p, deep)
	}
	if p.message && c.IntN(3) > 0 {
		if n, ok := c.asked(p, ty); ok {
			return n
		}
	}
	switch ty {
	case api.TNum:
		return c.number()
	case api.TBool:
		return word(one(c, "true", "false"))
	case api.TText:
		return quoted(one(c, "", "x", "_"))
	}
	return list(word("raw"), quoted(one(c, "", "x")))
}

// asked is a query of a path alone.
func (c chance) asked(p spot, ty int) (api.Node, bool) {
	heads := map[int][]int{api.TNum: {api.OpGet, api.OpCount, api.OpSum, api.OpMin, api.OpMax}, api.TBool: {api.OpGet, api.OpHas}}[ty]
	op := one(c, append([]int{api.OpGet}, heads...)...)
	n, _, ok := c.path(p.m, func(f api.FieldDef, keyed bool) bool {
		got, ok := wantAsked(f, keyed)[op]
		return ok && got == ty
	})
	if !ok || op != api.OpGet {
		return list(word(opNames[op]), n), ok
	}
	// Some names mean something else alone.
	if n.Kind == api.Name && (n.Text == "true" || n.Text == "false" || n.Text == "_") {
		n = list(api.Node{Kind: api.Sign, Text: "."}, n)
	}
	return n, true
}

// bigger is a query of TBool that is of others.
func (c chance) bigger(p spot, deep int) api.Node {
	head := one(c, heads[6:]...)
	switch {
	case strings.HasPrefix(shapes[head].shape, "P"):
		n, f, ok := c.path(p.m, func(f api.FieldDef, keyed bool) bool { return f.Rep })
		if !p.message || !ok {
			return word("true")
		}
		return list(word(head), n, c.query(p.within(f), api.TBool, deep-1))
	case strings.HasPrefix(shapes[head].shape, "B"):
		l := []api.Node{word(head)}
		for range 1 + c.IntN(3)*(len(shapes[head].shape)-1) {
			l = append(l, c.query(p, api.TBool, deep-1))
		}
		return list(l...)
	}
	ty := c.IntN(api.Types)
	if shapes[head].shape == "LL" && ty == api.TBool {
		ty = api.TText
	}
	return list(word(head), c.query(p, ty, deep-1), c.query(p, ty, deep-1))
}

// nodeParts are a node, and all that are in it.
func nodeParts(n *api.Node) []*api.Node {
	out := []*api.Node{n}
	for i := range n.L {
		out = append(out, nodeParts(&n.L[i])...)
	}
	return out
}

// spoiled is a node with one node in it changed, left away, or twice.
func (c chance) spoiled(n api.Node) api.Node {
	out := ownNode(n)
	part := one(c, nodeParts(&out)...)
	if len(part.L) > 0 && c.IntN(3) == 0 {
		i := c.IntN(len(part.L))
		part.L = slices.Concat(part.L[:i], part.L[i+c.IntN(2):], part.L[i:])
		part.L = part.L[:c.IntN(len(part.L)+1)]
		return out
	}
	m := c.IntN(len(c.s.M))
	others := []api.Node{word("x"), word("_"), word("true"), c.number(), quoted("k"), list(), {Kind: api.Sign, Text: "."}, word(one(c, heads...)), c.query(atMessage(c.s, m), c.IntN(api.Types), 2)}
	if len(c.s.M[m].F) > 0 {
		f := one(c, c.s.M[m].F...)
		others = append(others, word(f.Name), c.step(f, true), c.step(f, f.Key != api.NoKey))
	}
	*part = one(c, others...)
	return out
}

// P15.2, P15.4: nodes made by chance that are queries, and the same with one thing changed, or two.
func TestNodesByChance(t *testing.T) {
	errs := map[api.Errno]int{}
	deep := 0
	for seed, s := range []api.Schema{read(t, small), whole()} {
		c := newChance(s, uint64(seed))
		for range 6000 {
			m := c.IntN(len(s.M))
			n := numbered(c.query(atMessage(s, m), c.IntN(api.Types), c.IntN(6)))
			if wrong := holdOf(t, s, m, n); wrong == fine {
				e, _, _ := typing.Of(s, m, n)
				deep = max(deep, wantTree(e))
				holdSpoiled(t, c, m, e)
			} else {
				t.Errorf("%s at %d: %d at %d", sexp.Print(n), m, wrong.err, wrong.at)
			}
			for range 2 {
				n = c.spoiled(n)
				if !sexp.May(n) {
					break
				}
				errs[holdOf(t, s, m, numbered(n)).err]++
			}
		}
	}
	if errs[api.OK] < 500 || errs[api.ErrType] < 5000 || errs[api.ErrNone] < 500 || deep < 9 {
		t.Errorf("told: %v, at most %d within one another", errs, deep)
	}
}

// holdSpoiled holds a query, and the same with one part changed, at its message and at another one, against the words.
func holdSpoiled(t *testing.T, c chance, m int, e api.Expr) {
	t.Helper()
	holdMay(t, c.s, m, e, true)
	holdWords(t, c.s, c.IntN(len(c.s.M)), e)
	for range 3 {
		x := own(e)
		part := one(c, parts(&x, 0)...).n
		switch c.IntN(8) {
		case 0:
			part.Op = c.IntN(api.Ops+2) - 1
		case 1:
			part.T = c.IntN(api.Types+2) - 1
		case 2:
			part.N += int64(c.IntN(3) - 1)
		case 3:
			part.S = one(c, "", "s")
		case 4:
			part.P = append(part.P, step(1+c.IntN(30)))
		case 5:
			part.L = append(part.L, truth(1))
		case 6:
			*part = own(*one(c, parts(&x, 0)...).n)
		default:
			if len(part.P) > 0 {
				part.P[c.IntN(len(part.P))] = api.Step{No: 1 + c.IntN(30), Map: c.IntN(2) > 0, N: int64(c.IntN(2)), S: one(c, "", "", "k")}
			}
		}
		holdWords(t, c.s, m, x)
	}
}

// P15.3: texts of nodes made by chance, with blanks anywhere, tell what their nodes tell, but for where.
func TestTextsByChance(t *testing.T) {
	s := read(t, small)
	c := newChance(s, 77)
	for range 2000 {
		n := c.query(atMessage(s, 0), c.IntN(api.Types), c.IntN(5))
		if c.IntN(2) > 0 {
			n = c.spoiled(n)
		}
		if !sexp.May(n) {
			continue
		}
		src := strings.ReplaceAll(sexp.Print(n), " ", one(c, " ", "  ", "\n", " // (x)\n"))
		again := parsed(t, src)
		want, wrong := wantOf(atMessage(s, 0), again)
		e, at, err := typing.Read(s, 0, src)
		if (fault{at, err}) != wrong || !alike(e, want) {
			t.Fatalf("Read(%s) is %s, %d, %d, not %s, %d, %d", src, show(e), at, err, show(want), wrong.at, wrong.err)
		}
		f, _, errAgain := typing.Of(s, 0, n)
		if err != errAgain || !alike(e, f) {
			t.Fatalf("%s: %s, %d", src, show(f), errAgain)
		}
	}
}
