package typing_test

import (
	"fmt"
	"math"
	"reflect"
	"slices"
	"strings"
	"testing"

	"truffle/api"
	"truffle/typing"
)

// changes are a query, each changed in one thing of it alone.
func changes(e api.Expr) map[string]api.Expr {
	out := map[string]api.Expr{}
	with := func(what string, do func(x *api.Expr)) {
		x := own(e)
		do(&x)
		out[what] = x
	}
	for t := -1; t <= api.Types; t++ {
		if t != e.T {
			with(fmt.Sprint("T ", t), func(x *api.Expr) { x.T = t })
		}
	}
	for op := -1; op <= api.Ops; op++ {
		if op != e.Op {
			with(fmt.Sprint("Op ", op), func(x *api.Expr) { x.Op = op })
		}
	}
	for _, n := range []int64{0, 1, 2, -1, math.MinInt64} {
		if n != e.N {
			with(fmt.Sprint("N ", n), func(x *api.Expr) { x.N = n })
		}
	}
	with("S longer", func(x *api.Expr) { x.S += "s" })
	with("P longer", func(x *api.Expr) { x.P = append(x.P, step(1)) })
	with("P of a step that is nothing", func(x *api.Expr) { x.P = append(x.P, api.Step{}) })
	with("P without its last step", func(x *api.Expr) { x.P = x.P[:max(0, len(x.P)-1)] })
	with("P gone", func(x *api.Expr) { x.P = nil })
	with("L longer", func(x *api.Expr) { x.L = append(x.L, truth(1)) })
	with("L longer by what is nothing", func(x *api.Expr) { x.L = append(x.L, api.Expr{}) })
	with("L without its last one", func(x *api.Expr) { x.L = x.L[:max(0, len(x.L)-1)] })
	with("L gone", func(x *api.Expr) { x.L = nil })
	return out
}

// stays are the changes that leave a query of an Op as it may be, without those of its path, or of what it is of.
func stays(e api.Expr, what string) bool {
	kind, which, _ := strings.Cut(what, " ")
	switch {
	case kind == "N" && e.Op == api.OpNum, kind == "S" && (e.Op == api.OpText || e.Op == api.OpRaw):
		return true
	case kind == "N" && e.Op == api.OpBool:
		return which == "0" || which == "1"
	case kind == "P" && len(e.P) == 0, kind == "L" && len(e.L) == 0:
		return !strings.Contains(what, "longer") && !strings.Contains(what, "nothing")
	}
	return false
}

// P15.1: queries that are values, at a message; each thing of them changed alone.
func TestValuesAtAMessage(t *testing.T) {
	s := whole()
	for m := range msgs {
		for _, n := range numbers {
			holdMay(t, s, m, num(n), true)
			holdMay(t, s, m, truth(n), n == 0 || n == 1)
		}
		for _, text := range []string{"", "s", "\xff", "é", strings.Repeat("s", 6000)} {
			holdMay(t, s, m, api.Expr{Op: api.OpText, T: api.TText, S: text}, true)
			holdMay(t, s, m, raw(text), true)
		}
		for _, e := range []api.Expr{num(0), num(7), truth(0), truth(1), text(""), text("s"), raw(""), raw("s")} {
			holdMay(t, s, m, e, true)
			holdMay(t, s, m, api.Expr{Op: e.Op, T: e.T, N: e.N, S: e.S, P: []api.Step{}, L: []api.Expr{}}, true)
			for what, x := range changes(e) {
				if kind, _, _ := strings.Cut(what, " "); kind != "Op" {
					holdMay(t, s, m, x, stays(e, what))
				}
			}
		}
	}
}

// P15.1: an element is told at elements alone, of their type alone.
func TestElements(t *testing.T) {
	s := whole()
	for m := range msgs {
		for ty := -1; ty <= api.Types; ty++ {
			holdMay(t, s, m, self(ty), false)
			holdMay(t, s, m, join(api.OpAnd, self(ty)), false)
		}
	}
	for kind := range api.Kinds {
		for _, op := range []int{api.OpAny, api.OpAll} {
			of := func(e api.Expr) api.Expr { return each(op, e, step(repeated+kind)) }
			want, ok := typeOf[kind]
			for ty := range api.Types {
				is := ok && ty == want
				holdMay(t, s, forms, of(join(api.OpEq, self(ty), self(ty))), is)
				holdMay(t, s, forms, of(self(ty)), is && ty == api.TBool)
				holdMay(t, s, forms, of(join(api.OpNot, self(ty))), is && ty == api.TBool)
				holdMay(t, s, forms, of(join(api.OpLt, self(ty), self(ty))), is && ty != api.TBool)
				holdMay(t, s, forms, join(api.OpEq, of(truth(1)), self(ty)), false)
			}
			if !ok {
				continue
			}
			e := self(want)
			for what, x := range changes(e) {
				if kind, _, _ := strings.Cut(what, " "); kind != "Op" {
					x.T = e.T
					holdMay(t, s, forms, of(join(api.OpEq, x, self(want))), stays(e, what) || kind == "T")
				}
			}
		}
	}
}

// P15.1: at elements no query has a path; all else may stand there.
func TestQueriesAtElements(t *testing.T) {
	s := whole()
	for kind := range api.Raw + 1 {
		of := func(e api.Expr) api.Expr { return each(api.OpAll, e, step(repeated+kind)) }
		for _, e := range []api.Expr{num(5), truth(1), text("s"), raw("s"), self(typeOf[kind])} {
			holdMay(t, s, forms, of(join(api.OpEq, e, e)), true)
			holdMay(t, s, forms, of(join(api.OpLt, e, e)), e.T != api.TBool)
			holdMay(t, s, forms, of(e), e.T == api.TBool)
			holdMay(t, s, forms, of(join(api.OpOr, join(api.OpAnd, truth(0), join(api.OpNot, join(api.OpEq, e, e))))), true)
		}
		for _, e := range []api.Expr{
			ask(api.OpGet, api.TBool, step(alone+api.Flag)), ask(api.OpGet, api.TBool), ask(api.OpHas, api.TBool, step(inOne)),
			each(api.OpAny, truth(1), step(repeated)), each(api.OpAll, truth(1), step(repeated+api.Sub)),
		} {
			holdMay(t, s, forms, of(e), false)
			holdMay(t, s, forms, of(join(api.OpAnd, e)), false)
			holdMay(t, s, forms, join(api.OpAnd, of(truth(1)), e), len(e.P) > 0)
		}
		for op := api.OpCount; op <= api.OpMax; op++ {
			e := ask(op, api.TNum, step(repeated))
			holdMay(t, s, forms, join(api.OpEq, num(1), e), true)
			holdMay(t, s, forms, of(join(api.OpEq, num(1), e)), false)
		}
	}
}

// P15.1: within OpAny and OpAll of messages the place is their message, which counts no more behind it.
func TestQueriesAtMessagesWithin(t *testing.T) {
	s := whole()
	ofFew := join(api.OpEq, get(api.TNum, 1), num(1))
	for _, op := range []int{api.OpAny, api.OpAll} {
		holdMay(t, s, forms, each(op, ofFew, step(repeated+api.Sub)), true)
		holdMay(t, s, forms, each(op, join(api.OpEq, get(api.TText, 3), get(api.TText, 4, api.MaxNo)), step(repeated+api.Sub)), true)
		holdMay(t, s, forms, each(op, each(api.OpAny, self(api.TBool), step(2)), step(repeated+api.Sub)), true)
		holdMay(t, s, forms, each(op, each(op, ofFew, step(repeated+api.Sub)), step(inOne+api.Sub), step(repeated+api.Sub)), false)
		holdMay(t, s, forms, each(op, get(api.TBool, alone+api.Flag), step(repeated+api.Sub)), false)
		holdMay(t, s, forms, each(op, ofFew, step(repeated)), false)
		holdMay(t, s, forms, join(api.OpAnd, each(op, ofFew, step(repeated+api.Sub)), get(api.TBool, alone+api.Flag)), true)
		holdMay(t, s, forms, join(api.OpAnd, each(op, ofFew, step(repeated+api.Sub)), join(api.OpEq, get(api.TText, 3), text(""))), false)
		holdMay(t, s, forms, join(api.OpAnd, each(op, self(api.TBool), step(repeated+api.Flag)), each(op, ofFew, step(repeated+api.Sub))), true)
		holdMay(t, s, forms, each(op, join(api.OpEq, ask(api.OpCount, api.TNum, step(2)), num(0)), step(inOne+api.Sub), step(repeated+api.Sub)), true)
	}
}

// P15.1: what each Op may ask, of each field, with a key or none, with each type: as literal answers.
func TestWhatMayBeAskedOfAPath(t *testing.T) {
	s := whole()
	got := map[string]string{}
	for m := range msgs {
		for _, f := range s.M[m].F {
			for _, x := range []api.Step{step(f.No), byNum(f.No, 1), byText(f.No, "k")} {
				if x.Map && !wantStep(f, x) {
					continue
				}
				for op := api.OpGet; op <= api.OpMax; op++ {
					name := f.Name
					if x.Map {
						name += "!"
					}
					got[opNames[op]] += typesThatMay(t, s, m, name, func(ty int) api.Expr { return ask(op, ty, x) })
				}
				for _, op := range []int{api.OpAny, api.OpAll} {
					got[opNames[op]] += typesThatMay(t, s, m, f.Name, func(ty int) api.Expr {
						return api.Expr{Op: op, T: ty, P: []api.Step{x}, L: []api.Expr{truth(1)}}
					})
				}
			}
		}
	}
	numbers := " r_int/num r_sint/num r_uint/num r_fix4/num r_fix8/num r_enum/num"
	all := " r_int/bool r_sint/bool r_uint/bool r_flag/bool r_fix4/bool r_fix8/bool r_enum/bool r_text/bool r_raw/bool r_sub/bool false/bool"
	for op, want := range map[string]string{
		"get": " int/num sint/num uint/num flag/bool fix4/num fix8/num enum/num text/text raw/raw" +
			" o_int/num o_sint/num o_uint/num o_flag/bool o_fix4/num o_fix8/num o_enum/num o_text/text o_raw/raw" +
			" t_int!/num t_sint!/num t_uint!/num t_flag!/bool t_fix4!/num t_fix8!/num t_enum!/num t_text!/text t_raw!/raw" +
			" s_int!/num s_sint!/num s_uint!/num s_flag!/bool s_fix4!/num s_fix8!/num s_enum!/num s_text!/text s_raw!/raw" +
			" true/num _/text raw!/raw last/text",
		"has": " sub/bool o_int/bool o_sint/bool o_uint/bool o_flag/bool o_fix4/bool o_fix8/bool o_enum/bool o_text/bool o_raw/bool o_sub/bool" +
			" k_int!/bool k_sint!/bool k_uint!/bool k_flag!/bool k_fix4!/bool k_fix8!/bool k_text!/bool" +
			" t_int!/bool t_sint!/bool t_uint!/bool t_flag!/bool t_fix4!/bool t_fix8!/bool t_enum!/bool t_text!/bool t_raw!/bool t_sub!/bool" +
			" s_int!/bool s_sint!/bool s_uint!/bool s_flag!/bool s_fix4!/bool s_fix8!/bool s_enum!/bool s_text!/bool s_raw!/bool s_sub!/bool" +
			" _/bool eq/bool raw!/bool",
		"count": " r_int/num r_sint/num r_uint/num r_flag/num r_fix4/num r_fix8/num r_enum/num r_text/num r_raw/num r_sub/num" +
			" k_int/num k_sint/num k_uint/num k_flag/num k_fix4/num k_fix8/num k_text/num" +
			" t_int/num t_sint/num t_uint/num t_flag/num t_fix4/num t_fix8/num t_enum/num t_text/num t_raw/num t_sub/num" +
			" s_int/num s_sint/num s_uint/num s_flag/num s_fix4/num s_fix8/num s_enum/num s_text/num s_raw/num s_sub/num" +
			" false/num raw/num",
		"sum": numbers, "min": numbers, "max": numbers, "any": all, "all": all,
	} {
		if got[op] != want {
			t.Errorf("%s may ask\n%s, not\n%s", op, got[op], want)
		}
	}
}

// typesThatMay are a name and each of the types with which a query may be.
func typesThatMay(t *testing.T, s api.Schema, m int, name string, of func(ty int) api.Expr) string {
	t.Helper()
	out := ""
	for ty := -1; ty <= api.Types; ty++ {
		if holdWords(t, s, m, of(ty)) {
			out += " " + name + "/" + typeNames[ty]
		}
	}
	return out
}

// P15.1: a path of more steps, one that is too long, and one that is none, for each Op that has a path.
func TestPathsOfQueries(t *testing.T) {
	s := whole()
	of := func(op int, last ...api.Step) func(ahead []api.Step) api.Expr {
		return func(ahead []api.Step) api.Expr {
			e := ask(op, wantOps[op], append(slices.Clone(ahead), last...)...)
			if op == api.OpAny || op == api.OpAll {
				e.L = []api.Expr{truth(0)}
			}
			return e
		}
	}
	for i, on := range []func(ahead []api.Step) api.Expr{
		of(api.OpGet, step(alone)), of(api.OpHas, step(inOne)), of(api.OpHas, step(alone+api.Sub)), of(api.OpCount, step(repeated)),
		of(api.OpCount, step(repeated+api.Sub)), of(api.OpSum, step(repeated+api.Enum)), of(api.OpMin, step(repeated+api.Fix4)),
		of(api.OpMax, step(repeated+api.Sint)), of(api.OpAny, step(repeated+api.Raw)), of(api.OpAll, step(repeated+api.Sub)),
	} {
		ahead := slices.Repeat(path(inOne+api.Sub), 20)
		for many := range ahead {
			holdMay(t, s, forms, on(ahead[:many]), many < 16)
		}
		for _, wrong := range [][]api.Step{path(alone), path(repeated + api.Sub), path(40), {byNum(inOne+api.Sub, 0)}, {{No: inOne + api.Sub, N: 1}}, path(alone+api.Sub, byKey)} {
			holdMay(t, s, forms, on(wrong), false)
			holdMay(t, s, forms, on(append(wrong, ahead[:3]...)), false)
		}
		holdMay(t, s, forms, on([]api.Step{step(alone + api.Sub), byNum(byKey, -7)}), true)
		e := on(nil)
		e.P = nil
		holdMay(t, s, forms, e, false)
		e.P = append(on(nil).P, step(alone))
		holdMay(t, s, forms, e, false)
		for m := maps; m < msgs; m++ {
			if e := on(nil); holdWords(t, s, m, e) && m == none {
				t.Errorf("%d: %s of a message without fields", i, show(e))
			}
		}
	}
}

// wantOps are the types of the Ops that have a path, OpGet's of a number.
var wantOps = map[int]int{
	api.OpGet: api.TNum, api.OpHas: api.TBool, api.OpCount: api.TNum, api.OpSum: api.TNum, api.OpMin: api.TNum, api.OpMax: api.TNum,
	api.OpAny: api.TBool, api.OpAll: api.TBool,
}

// P15.1: a query with a path has no number, no text, and no queries, but the one of OpAny and OpAll, which is of TBool.
func TestWhatQueriesWithAPathHave(t *testing.T) {
	s := whole()
	for _, e := range []api.Expr{
		get(api.TNum, alone), get(api.TBool, alone+api.Flag), get(api.TText, alone+api.Text), get(api.TRaw, inOne+api.Sub, alone+api.Raw),
		ask(api.OpHas, api.TBool, step(inOne)), ask(api.OpHas, api.TBool, step(alone+api.Sub)),
		ask(api.OpCount, api.TNum, step(repeated+api.Text)), ask(api.OpCount, api.TNum, step(alone+api.Sub), step(byKey)),
		ask(api.OpSum, api.TNum, step(repeated)), ask(api.OpMin, api.TNum, step(repeated+api.Fix8)), ask(api.OpMax, api.TNum, step(repeated+api.Uint)),
		each(api.OpAny, self(api.TBool), step(repeated+api.Flag)), each(api.OpAll, truth(0), step(repeated+api.Sub)),
	} {
		holdMay(t, s, forms, e, true)
		for what, x := range changes(e) {
			switch kind, _, _ := strings.Cut(what, " "); kind {
			case "N", "S", "T", "L":
				holdMay(t, s, forms, x, stays(e, what))
			default:
				holdWords(t, s, forms, x)
			}
		}
	}
	for _, op := range []int{api.OpAny, api.OpAll} {
		for ty := range api.Types {
			of := []api.Expr{num(1), truth(1), text(""), raw("")}[ty]
			holdMay(t, s, forms, each(op, of, step(repeated)), ty == api.TBool)
			holdMay(t, s, forms, each(op, of, step(repeated+api.Sub)), ty == api.TBool)
			holdMay(t, s, forms, each(op, self(typeOf[api.Flag]), step(repeated+api.Flag)), true)
		}
		holdMay(t, s, forms, api.Expr{Op: op, T: api.TBool, P: path(repeated), L: []api.Expr{truth(1), truth(1)}}, false)
		holdMay(t, s, forms, api.Expr{Op: op, T: api.TBool, P: path(repeated), L: []api.Expr{}}, false)
	}
}

// ofType are queries of a type, of several Ops, at message forms.
func ofType(ty int) []api.Expr {
	return [][]api.Expr{
		api.TNum:  {num(5), get(api.TNum, alone), get(api.TNum, alone+api.Enum), ask(api.OpCount, api.TNum, step(repeated+api.Raw)), ask(api.OpMax, api.TNum, step(repeated))},
		api.TBool: {truth(1), get(api.TBool, alone+api.Flag), ask(api.OpHas, api.TBool, step(inOne)), join(api.OpNot, truth(0)), each(api.OpAny, self(api.TBool), step(repeated+api.Flag)), join(api.OpEq, num(1), num(2)), join(api.OpOr, truth(0))},
		api.TText: {text("s"), get(api.TText, alone+api.Text)},
		api.TRaw:  {raw("s"), get(api.TRaw, inOne+api.Raw)},
	}[ty]
}

// P15.1: OpEq is of two queries of one type, OpLt of two of one type that is not TBool.
func TestComparisons(t *testing.T) {
	s := whole()
	for a := range api.Types {
		for b := range api.Types {
			for _, x := range ofType(a) {
				for _, y := range ofType(b) {
					holdMay(t, s, forms, join(api.OpEq, x, y), a == b)
					holdMay(t, s, forms, join(api.OpLt, x, y), a == b && a != api.TBool)
				}
			}
		}
	}
	for _, op := range []int{api.OpEq, api.OpLt} {
		for many := range 5 {
			holdMay(t, s, forms, join(op, slices.Repeat([]api.Expr{num(1)}, many)...), many == 2)
			holdMay(t, s, forms, join(op, slices.Repeat([]api.Expr{text("")}, many)...), many == 2)
		}
		holdMay(t, s, forms, join(op, num(1), api.Expr{Op: api.OpNum, T: api.TText}), false)
		holdMay(t, s, forms, join(op, api.Expr{Op: api.OpText, T: api.TNum}, num(1)), false)
		holdMay(t, s, forms, join(op, get(api.TText, alone), get(api.TText, alone)), false)
		holdMay(t, s, forms, join(op, self(api.TNum), num(1)), false)
		holdMay(t, s, forms, join(op, num(1), self(api.TNum)), false)
	}
}

// P15.1: OpNot is of one query of TBool, OpAnd and OpOr of one at least, each of TBool.
func TestConnectives(t *testing.T) {
	s := whole()
	for ty := range api.Types {
		for _, x := range ofType(ty) {
			for _, op := range []int{api.OpNot, api.OpAnd, api.OpOr} {
				is, many := ty == api.TBool, op != api.OpNot
				holdMay(t, s, forms, join(op, x), is)
				holdMay(t, s, forms, join(op, x, x), is && many)
				holdMay(t, s, forms, join(op, truth(1), x), is && many)
				holdMay(t, s, forms, join(op, x, truth(1)), is && many)
				holdMay(t, s, forms, join(op, truth(1), x, truth(0)), is && many)
			}
		}
	}
	for many := range 200 {
		l := slices.Repeat([]api.Expr{truth(1)}, many)
		holdMay(t, s, forms, join(api.OpNot, l...), many == 1)
		holdMay(t, s, forms, join(api.OpAnd, l...), many > 0)
		holdMay(t, s, forms, join(api.OpOr, l...), many > 0)
	}
}

// P15.1: OpEq to OpOr are of TBool, and have no path, no number and no text.
func TestWhatQueriesOfOthersHave(t *testing.T) {
	s := whole()
	for _, e := range []api.Expr{
		join(api.OpEq, get(api.TNum, alone), num(5)), join(api.OpEq, truth(1), truth(0)), join(api.OpLt, text("a"), text("b")),
		join(api.OpNot, truth(1)), join(api.OpAnd, truth(1)), join(api.OpOr, truth(1), get(api.TBool, alone+api.Flag)),
	} {
		holdMay(t, s, forms, e, true)
		for what, x := range changes(e) {
			switch kind, _, _ := strings.Cut(what, " "); kind {
			case "N", "S", "T", "P":
				holdMay(t, s, forms, x, stays(e, what))
			default:
				holdWords(t, s, forms, x)
			}
		}
	}
}

// deepOnes are queries of everything, at message forms.
func deepOnes() []api.Expr {
	inner := join(api.OpAnd, join(api.OpEq, get(api.TNum, 1), num(3)), each(api.OpAll, join(api.OpOr, self(api.TBool), truth(0)), step(2)), join(api.OpLt, get(api.TText, 3), text("z")))
	return []api.Expr{
		each(api.OpAny, inner, step(inOne+api.Sub), step(repeated+api.Sub)),
		join(api.OpNot, join(api.OpLt, ask(api.OpSum, api.TNum, step(repeated)), ask(api.OpCount, api.TNum, step(alone+api.Sub), step(byKey)))),
		join(api.OpOr, ask(api.OpHas, api.TBool, step(alone+api.Sub), byNum(byKey+3, 1)), each(api.OpAll, join(api.OpEq, self(api.TRaw), raw("s")), step(repeated+api.Raw)), get(api.TBool, alone+api.Flag)),
		join(api.OpEq, get(api.TRaw, alone+api.Raw), raw("")),
	}
}

// P15.1: each part of a query changed alone, deep inside as well.
func TestEachPartChanged(t *testing.T) {
	s := whole()
	for _, e := range deepOnes() {
		holdMay(t, s, forms, e, true)
		for i := range parts(&e, 0) {
			old := *parts(&e, 0)[i].n
			for what, x := range changes(old) {
				changed := own(e)
				*parts(&changed, 0)[i].n = x
				may := holdWords(t, s, forms, changed)
				if kind, _, _ := strings.Cut(what, " "); may && (kind == "T" || kind == "S" && old.Op != api.OpText && old.Op != api.OpRaw || kind == "N" && old.Op > api.OpBool) {
					t.Errorf("%s: %s may be", what, show(changed))
				}
			}
			for _, other := range []api.Expr{{}, num(5), truth(1), text("s"), raw("s"), self(api.TNum), self(api.TBool), self(api.TRaw), get(api.TNum, 1), get(api.TBool, alone+api.Flag)} {
				changed := own(e)
				*parts(&changed, 0)[i].n = other
				holdWords(t, s, forms, changed)
			}
		}
	}
}

// P15.1: forty queries may stand within one another, and forty-one may not, of each Op that is of others.
func TestHowManyStandWithinOneAnother(t *testing.T) {
	s := whole()
	toFew := func(e api.Expr) api.Expr { return each(api.OpAny, e, step(repeated+api.Sub)) }
	around := map[string]func(e api.Expr) api.Expr{
		"not":    func(e api.Expr) api.Expr { return join(api.OpNot, e) },
		"and":    func(e api.Expr) api.Expr { return join(api.OpAnd, e) },
		"or":     func(e api.Expr) api.Expr { return join(api.OpOr, truth(0), e, truth(1)) },
		"first":  func(e api.Expr) api.Expr { return join(api.OpEq, e, truth(1)) },
		"second": func(e api.Expr) api.Expr { return join(api.OpEq, truth(1), e) },
		"mixed":  func(e api.Expr) api.Expr { return join(api.OpAnd, join(api.OpEq, truth(0), join(api.OpNot, e))) },
	}
	for what, of := range around {
		for _, leaf := range []api.Expr{truth(1), get(api.TBool, alone+api.Flag), join(api.OpLt, num(1), num(2)), each(api.OpAny, self(api.TBool), step(repeated+api.Flag))} {
			for e := leaf; wantTree(e) < 50; e = of(e) {
				holdMay(t, s, forms, e, wantTree(e) <= 40)
				if what == "not" && wantTree(e) == 40 {
					holdMay(t, s, forms, join(api.OpAnd, truth(1), e), false)
				}
			}
		}
		for e := truth(0); wantTree(e) < 50; e = of(e) {
			for m := range msgs {
				holdMay(t, s, m, e, wantTree(e) <= 40)
			}
			holdMay(t, s, forms, toFew(e), wantTree(e) <= 39)
			holdMay(t, s, forms, each(api.OpAll, e, step(repeated)), wantTree(e) <= 39)
			holdMay(t, s, forms, chain(20, toFew(e)), wantTree(e) <= 19)
		}
	}
	own := read(t, small)
	for e := truth(1); wantTree(e) < 50; e = each(api.OpAll, e, step(9)) {
		holdMay(t, own, 0, e, wantTree(e) <= 40)
	}
	holdMay(t, s, forms, chain(39, num(1)), false)
	holdMay(t, s, forms, chain(38, join(api.OpEq, num(1), num(1))), true)
	holdMay(t, s, forms, chain(39, join(api.OpEq, num(1), num(1))), false)
}

// P15.1: what is wrong deep inside is told, at each depth, in each place of many.
func TestWhatIsWrongDeepInside(t *testing.T) {
	s := whole()
	for _, wrong := range []api.Expr{
		{Op: api.OpNum, T: api.TBool}, {Op: api.OpBool, T: api.TBool, N: 2}, {Op: api.OpSelf, T: api.TBool}, {Op: api.OpGet, T: api.TBool},
		{Op: api.OpGet, T: api.TBool, P: path(alone)}, {Op: api.OpEq, T: api.TBool}, {Op: api.OpAnd, T: api.TBool},
		{Op: api.Ops, T: api.TBool}, {Op: -1, T: api.TBool}, {Op: api.OpAny, T: api.TBool, P: path(repeated)},
		join(api.OpEq, num(1), text("")), join(api.OpLt, truth(1), truth(1)), join(api.OpNot, truth(1), truth(1)),
	} {
		for above := range 39 {
			holdMay(t, s, forms, chain(above, wrong), false)
			holdMay(t, s, forms, chain(above, truth(1)), true)
		}
		for i := range 9 {
			l := slices.Repeat([]api.Expr{truth(1)}, 9)
			holdMay(t, s, forms, join(api.OpOr, l...), true)
			l[i] = wrong
			holdMay(t, s, forms, join(api.OpOr, l...), false)
			holdMay(t, s, forms, each(api.OpAny, join(api.OpAnd, l...), step(repeated+api.Sub)), false)
			holdMay(t, s, forms, each(api.OpAny, join(api.OpAnd, l...), step(repeated+api.Text)), false)
		}
	}
}

// P15.1: Ops that there are not, and a query of nothing, which is OpNum of TNum.
func TestOpsThatThereAreNot(t *testing.T) {
	s := whole()
	holdMay(t, s, forms, api.Expr{}, true)
	for _, op := range []int{-1, -2, api.Ops, api.Ops + 1, 100, math.MaxInt64, math.MinInt64} {
		for ty := -1; ty <= api.Types; ty++ {
			for _, e := range []api.Expr{{}, num(1), get(ty, alone), join(op, truth(1)), join(op, num(1), num(1)), each(op, truth(1), step(repeated))} {
				e.Op, e.T = op, ty
				holdMay(t, s, forms, e, false)
			}
		}
	}
}

// P15.1: there is no query at a message that is not there, or of a schema that may not be.
func TestQueriesAtNothing(t *testing.T) {
	s := whole()
	all := append(deepOnes(), num(1), truth(0), text(""), raw(""), get(api.TNum, 1))
	for _, e := range all {
		if !typing.May(s, forms, e) {
			t.Errorf("%s may not be", show(e))
		}
		for _, m := range noMessages {
			if typing.May(s, m, e) {
				t.Errorf("%s may be at %d", show(e), m)
			}
		}
		for i, wrong := range wrongSchemas() {
			for m := -1; m < msgs; m++ {
				if typing.May(wrong, m, e) {
					t.Errorf("%s may be at %d of schema %d", show(e), m, i)
				}
			}
		}
	}
}

// R1, P15.1: a query that has itself within it, once or more often, is none, and this is told.
func TestQueriesWithinThemselves(t *testing.T) {
	s := whole()
	for _, often := range []int{1, 2, 1000} {
		for _, op := range []int{api.OpEq, api.OpLt, api.OpNot, api.OpAnd, api.OpOr, api.OpAny, api.OpAll, api.OpNum, api.OpGet, api.OpSelf, -1} {
			e := api.Expr{Op: op, T: api.TBool, L: make([]api.Expr, often)}
			if op == api.OpAny || op == api.OpAll {
				e.P = path(repeated + api.Sub)
			}
			for i := range e.L {
				e.L[i] = e
			}
			for m := range msgs {
				if typing.May(s, m, e) {
					t.Errorf("%d: a query that has itself %d times", op, often)
				}
			}
		}
	}
}

// R1, P15.1: queries that are as deep, and as wide, as the limits allow.
func TestQueriesThatAreVeryDeep(t *testing.T) {
	s := whole()
	if typing.May(s, forms, chain(1<<16, truth(1))) {
		t.Error("a very deep query may be")
	}
	if !typing.May(s, forms, join(api.OpAnd, slices.Repeat([]api.Expr{truth(1)}, 1<<16)...)) {
		t.Error("a very wide query may not be")
	}
}

// R3, R5, P15.1: what is handed in stays as it was, room behind it too, and nothing is kept from call to call.
func TestMayTellsTheSameAgain(t *testing.T) {
	s := whole()
	l := append(make([]api.Expr, 0, 8), truth(1), get(api.TBool, alone+api.Flag))
	room := l[:8]
	room[2], room[3] = num(77), text("room")
	p := append(make([]api.Step, 0, 4), step(inOne+api.Sub), step(repeated))
	e := join(api.OpAnd, join(api.OpOr, l...), each(api.OpAny, truth(1), p...), join(api.OpAnd, l...))
	before := own(e)
	for range 3 {
		holdMay(t, s, forms, e, true)
		holdMay(t, s, maps, e, false)
		holdMay(t, read(t, small), 0, e, false)
	}
	if !alike(e, before) || room[2].N != 77 || room[3].S != "room" || p[:4][2] != (api.Step{}) || !reflect.DeepEqual(s, whole()) {
		t.Error("what is handed in became another one")
	}
}
