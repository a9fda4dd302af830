package typing_test

import (
	"fmt"
	"math"
	"reflect"
	"slices"
	"strconv"
	"strings"
	"testing"

	"truffle/api"
	"truffle/sexp"
	"truffle/typing"
)

// heads are the names that lists begin by.
var heads = strings.Fields("raw has count sum min max any all eq lt not and or ne le gt ge")

// P15.2: a Num is OpNum, a Str OpText, `true` and `false` are OpBool.
func TestValuesAlone(t *testing.T) {
	s := whole()
	for m := range msgs {
		for _, n := range numbers {
			hold(t, s, m, strconv.FormatInt(n, 10), num(n))
			hold(t, s, m, "  "+strconv.FormatInt(n, 10)+" // 7", num(n))
		}
		hold(t, s, m, `"x"`, text("x"))
		hold(t, s, m, `""`, text(""))
		hold(t, s, m, `"true"`, text("true"))
		hold(t, s, m, `"\xff\n(. a)"`, text("\xff\n(. a)"))
		hold(t, s, m, "true", truth(1))
		hold(t, s, m, "false", truth(0))
		holdMark(t, s, m, "^_", api.ErrType)
		holdMark(t, s, m, " ^_", api.ErrType)
		holdMark(t, s, m, "^.", api.ErrType)
		holdMark(t, s, m, "  ^.", api.ErrType)
		holdMark(t, s, m, "^()", api.ErrType)
		holdMark(t, s, m, " ^( )", api.ErrType)
		holdMark(t, s, m, "^nowhere", api.ErrNone)
		holdMark(t, s, m, " ^True", api.ErrNone)
	}
}

// P15.2: another Name is a path of one step, of OpGet, by the name of its field, of each that has a type and leads to one.
func TestNamesOfFields(t *testing.T) {
	s := whole()
	for m := range msgs {
		for _, f := range s.M[m].F {
			if f.Name == "true" || f.Name == "false" || f.Name == "_" {
				continue
			}
			ty, ok := typeOf[f.Kind]
			if ok && !f.Rep && f.Key == api.NoKey {
				hold(t, s, m, f.Name, get(ty, f.No))
				hold(t, s, m, "(. "+f.Name+")", get(ty, f.No))
				continue
			}
			holdMark(t, s, m, "^"+f.Name, api.ErrType)
			holdMark(t, s, m, "^(. "+f.Name+")", api.ErrType)
		}
		for _, name := range []string{"int", "k_int", "eq", "nowhere", "Int", "r", "_int", "a"} {
			if _, ok := field(s, m, func(f api.FieldDef) bool { return f.Name == name }); !ok {
				holdMark(t, s, m, "^"+name, api.ErrNone)
				holdMark(t, s, m, "(. ^"+name+")", api.ErrNone)
			}
		}
	}
}

// P15.2: names that mean something alone, or begin lists, are names of fields where a path stands.
func TestNamesThatMeanSomethingElsewhere(t *testing.T) {
	s := whole()
	hold(t, s, few, "true", truth(1))
	hold(t, s, few, "(. true)", get(api.TNum, 1))
	hold(t, s, few, "(. _)", get(api.TText, 3))
	holdMark(t, s, few, "^_", api.ErrType)
	holdMark(t, s, few, "^(. false)", api.ErrType)
	holdMark(t, s, few, "^eq", api.ErrType)
	hold(t, s, few, "(. eq eq true)", get(api.TNum, 4, 4, 1))
	hold(t, s, few, "(has eq)", ask(api.OpHas, api.TBool, step(4)))
	hold(t, s, few, "(has _)", ask(api.OpHas, api.TBool, step(3)))
	hold(t, s, few, "(count false)", ask(api.OpCount, api.TNum, step(2)))
	hold(t, s, few, "(count raw)", ask(api.OpCount, api.TNum, step(5)))
	hold(t, s, few, "(. (raw true))", ask(api.OpGet, api.TRaw, byNum(5, 1)))
	hold(t, s, few, "(any false _)", each(api.OpAny, self(api.TBool), step(2)))
	hold(t, s, few, "(all false true)", each(api.OpAll, truth(1), step(2)))
	hold(t, s, few, "(eq (. true) 1)", join(api.OpEq, get(api.TNum, 1), num(1)))
	holdMark(t, s, few, "(has ^true)", api.ErrType)
	holdMark(t, s, forms, "(has ^true)", api.ErrNone)
	holdMark(t, s, forms, "(. ^_)", api.ErrNone)
	holdMark(t, s, few, "^true2", api.ErrNone)
}

// P15.2: lists that begin by something else than the Sign, or a Name that stands in the chapter.
func TestHowListsBegin(t *testing.T) {
	s := read(t, small)
	for _, first := range []string{"5", "-1", `"eq"`, `"."`, "()", "(eq)", "(. a)", "(. (m \"k\"))", "a", "r", "true", "false", "_", "x", "EQ", "eq1", "num", "text", "get", "self", "bool", "is", "if", "P", "Q", "STR", "minimum"} {
		for _, behind := range []string{"", " a", " 5", ` "x"`, " a 5", " r true", " x", " (x)", " ()"} {
			holdMark(t, s, 0, "^("+first+behind+")", api.ErrType)
			holdMark(t, s, 0, " (not ^("+first+behind+"))", api.ErrType)
			holdMark(t, s, 0, "(any r ^("+first+behind+"))", api.ErrType)
			holdMark(t, s, 0, "(any l ^("+first+behind+"))", api.ErrType)
		}
	}
}

// P15.2: each list that begins by a name, as the chapter writes it.
func TestListsByTheirNames(t *testing.T) {
	s := read(t, small)
	a, five := get(api.TNum, 1), num(5)
	for src, want := range map[string]api.Expr{
		`(raw "x")`: raw("x"), `(raw "")`: raw(""), `(raw "\xff")`: raw("\xff"),
		"(has s)": ask(api.OpHas, api.TBool, step(4)), "(has p)": ask(api.OpHas, api.TBool, step(6)), "(has (. s q))": ask(api.OpHas, api.TBool, step(4), step(7)),
		"(has (. (k true)))": ask(api.OpHas, api.TBool, byNum(10, 1)), `(has (. (m "k")))`: ask(api.OpHas, api.TBool, byText(5, "k")),
		"(count r)": ask(api.OpCount, api.TNum, step(2)), "(count (. s l))": ask(api.OpCount, api.TNum, step(4), step(9)), "(count m)": ask(api.OpCount, api.TNum, step(5)),
		"(sum r)": ask(api.OpSum, api.TNum, step(2)), "(sum (. q r))": ask(api.OpSum, api.TNum, step(7), step(2)),
		"(min r)": ask(api.OpMin, api.TNum, step(2)), `(min (. (m "") r))`: ask(api.OpMin, api.TNum, byText(5, ""), step(2)),
		"(max r)": ask(api.OpMax, api.TNum, step(2)), "(max (. d r))": ask(api.OpMax, api.TNum, step(19), step(2)),
		"(any r (eq _ 3))": each(api.OpAny, join(api.OpEq, self(api.TNum), num(3)), step(2)), "(any z _)": each(api.OpAny, self(api.TBool), step(12)),
		`(any u (lt _ "x"))`: each(api.OpAny, join(api.OpLt, self(api.TText), text("x")), step(11)), `(any v (eq _ (raw "x")))`: each(api.OpAny, join(api.OpEq, self(api.TRaw), raw("x")), step(16)),
		"(all l b)": each(api.OpAll, get(api.TBool, 17), step(9)), "(all (. s g) (eq c 5))": each(api.OpAll, join(api.OpEq, get(api.TNum, 1), five), step(4), step(20)),
		"(eq a 5)": join(api.OpEq, a, five), "(eq 5 a)": join(api.OpEq, five, a), "(eq b true)": join(api.OpEq, get(api.TBool, 17), truth(1)), "(eq e 5)": join(api.OpEq, get(api.TNum, 13), five),
		"(lt a 5)": join(api.OpLt, a, five), "(lt 5 a)": join(api.OpLt, five, a), `(lt t "x")`: join(api.OpLt, get(api.TText, 3), text("x")), `(lt y (raw ""))`: join(api.OpLt, get(api.TRaw, 15), raw("")),
		"(not b)": join(api.OpNot, get(api.TBool, 17)), "(not (not true))": join(api.OpNot, join(api.OpNot, truth(1))),
		"(and b)": join(api.OpAnd, get(api.TBool, 17)), "(and true false p)": join(api.OpAnd, truth(1), truth(0), get(api.TBool, 6)),
		"(or b)": join(api.OpOr, get(api.TBool, 17)), "(or p (and b) (has s))": join(api.OpOr, get(api.TBool, 6), join(api.OpAnd, get(api.TBool, 17)), ask(api.OpHas, api.TBool, step(4))),
		"(ne a 5)": join(api.OpNot, join(api.OpEq, a, five)), "(ne p b)": join(api.OpNot, join(api.OpEq, get(api.TBool, 6), get(api.TBool, 17))),
		"(le a 5)": join(api.OpNot, join(api.OpLt, five, a)), "(gt a 5)": join(api.OpLt, five, a), "(ge a 5)": join(api.OpNot, join(api.OpLt, a, five)),
		`(le t "x")`: join(api.OpNot, join(api.OpLt, text("x"), get(api.TText, 3))), `(gt t "x")`: join(api.OpLt, text("x"), get(api.TText, 3)), `(ge t "x")`: join(api.OpNot, join(api.OpLt, get(api.TText, 3), text("x"))),
		"(gt (. a) 5)":                     join(api.OpLt, five, a),
		"(gt (count r) (sum (. s r)))":     join(api.OpLt, ask(api.OpSum, api.TNum, step(4), step(2)), ask(api.OpCount, api.TNum, step(2))),
		"(eq (gt a 5) (le a 5))":           join(api.OpEq, join(api.OpLt, five, a), join(api.OpNot, join(api.OpLt, five, a))),
		"(any l (all g (any r (ne _ 1))))": each(api.OpAny, each(api.OpAll, each(api.OpAny, join(api.OpNot, join(api.OpEq, self(api.TNum), num(1))), step(2)), step(20)), step(9)),
	} {
		hold(t, s, 0, src, want)
		hold(t, s, 0, " // \n\t"+src+" ", want)
	}
}

// P15.2: of each name a list with as many nodes as stand in the chapter, and with one less, and one more.
func TestHowManyNodesListsHave(t *testing.T) {
	s := read(t, small)
	for head, l := range map[string][]string{
		"raw": {`"x"`}, "has": {"s"}, "count": {"r"}, "sum": {"r"}, "min": {"r"}, "max": {"r"}, "any": {"r", "true"}, "all": {"r", "true"},
		"eq": {"a", "5"}, "lt": {"a", "5"}, "not": {"b"}, "and": {"b"}, "or": {"b"}, "ne": {"a", "5"}, "le": {"a", "5"}, "gt": {"a", "5"}, "ge": {"a", "5"},
	} {
		holdFine(t, s, 0, "("+head+" "+strings.Join(l, " ")+")")
		for many := range 6 {
			if many == len(l) || many > 0 && (head == "and" || head == "or") {
				continue
			}
			for _, fill := range append(l, "x", "(x)", "5", "()") {
				behind := strings.Repeat(" "+fill, many)
				holdMark(t, s, 0, "^("+head+behind+")", api.ErrType)
				holdMark(t, s, 0, "(and b ^("+head+behind+") x)", api.ErrType)
			}
			nodes := slices.Concat(l, l, l, l, l, l)[:many]
			holdMark(t, s, 0, "^("+head+" "+strings.Join(nodes, " ")+")", api.ErrType)
		}
	}
	for _, head := range []string{"and", "or"} {
		holdMark(t, s, 0, "^("+head+")", api.ErrType)
		for many := 1; many < 100; many++ {
			e, _, err := typing.Read(s, 0, "("+head+strings.Repeat(" b", many)+")")
			if err != api.OK || len(e.L) != many {
				t.Errorf("%s of %d: %s, %d", head, many, show(e), err)
			}
		}
	}
	if len(shapes) != len(heads) {
		t.Errorf("%d names, not %d", len(shapes), len(heads))
	}
}

// P15.2: what stands behind `raw` is a Str, or the list is wrong where it begins.
func TestRaw(t *testing.T) {
	s := read(t, small)
	for _, of := range []string{"5", "x", "y", "true", "_", ".", "()", "(x)", `("x")`, `(raw "x")`, "(. y)"} {
		holdMark(t, s, 0, "^(raw "+of+")", api.ErrType)
		holdMark(t, s, 0, "(eq y ^(raw "+of+"))", api.ErrType)
		holdMark(t, s, 0, "(any v (eq _ ^(raw "+of+")))", api.ErrType)
	}
}

// P15.2: a path is a Name, or a list of the Sign and from one to sixteen more: all else is told where it begins, ahead of all that is in it.
func TestFormsOfPaths(t *testing.T) {
	s := read(t, small)
	for _, head := range []string{"has", "count", "sum", "min", "max", "any", "all"} {
		behind := ")"
		if head == "any" || head == "all" {
			behind = " x)"
		}
		for _, no := range []string{"5", `"s"`, ".", "()", "(.)", "(s)", "(x)", "(s s)", `(m "k")`, "(has s)", "(5)", "((. s))", `("." s)`, "(() s)", "(. " + strings.Repeat("x ", 17) + ")", "(. " + strings.Repeat("s ", 16) + "s)", "(. " + strings.Repeat("5 ", 30) + ")"} {
			holdMark(t, s, 0, "("+head+" ^"+no+behind, api.ErrType)
		}
	}
	for many := range 30 {
		src := "(." + strings.Repeat(" s", many) + " a)"
		if many < 16 {
			hold(t, s, 0, src, get(api.TNum, append(slices.Repeat([]int{4}, many), 1)...))
			hold(t, s, 0, "(has (."+strings.Repeat(" s", many)+" q))", ask(api.OpHas, api.TBool, path(append(slices.Repeat([]int{4}, many), 7)...)...))
			holdMark(t, s, 0, "(."+strings.Repeat(" s", many)+" ^x)", api.ErrNone)
			continue
		}
		holdMark(t, s, 0, "^"+src, api.ErrType)
		holdMark(t, s, 0, "^(."+strings.Repeat(" s", many)+" x)", api.ErrType)
		holdMark(t, s, 0, "(has ^(. x"+strings.Repeat(" s", many)+"))", api.ErrType)
	}
	holdMark(t, s, 0, "^(.)", api.ErrType)
	holdMark(t, s, 0, "(not ^(.))", api.ErrType)
}

// P15.2: a step is a Name, or a list of a Name and one more node: else it is wrong where it begins.
func TestFormsOfSteps(t *testing.T) {
	s := read(t, small)
	for _, no := range []string{"5", `"s"`, ".", "()", "(s)", "(m)", "(x)", `(m "k" "k")`, `("m" "k")`, "(5 5)", "(. s)", "(() 5)", "((m) 5)", `((m "k") "k")`, "(x 5 5)", `(x)`, "(. 5)", "(. x)"} {
		for _, with := range []string{"(. ^%)", "(. ^% x)", "(. ^% 5 s)", "(. s ^%)", `(. (m "k") ^% x)`, "(has (. s ^%))", "(any (. ^% l) x)", "(and b (. s s ^% s))"} {
			holdMark(t, s, 0, strings.Replace(with, "%", no, 1), api.ErrType)
		}
	}
}

// P15.2: a field that is not there is told at its Name, also in a list, whatever the key is.
func TestFieldsThatAreNotThere(t *testing.T) {
	s := read(t, small)
	for _, with := range []string{
		"^x2", "(. ^x2)", "(. s ^x2)", "(. ^x2 x3)", "(. (^x2 5))", `(. (^x2 "k") a)`, "(. (^x2 x3))", "(. (^x2 ()))", "(. s (^x2 5) 5)", `(. (m "k") (^c true))`,
		"(has ^x2)", "(count ^x2)", "(sum (. s ^x2))", "(min (. (^x2 1)))", "(max ^c)", "(any ^x2 x3)", "(any l ^x2)", "(all g ^t)", "(all g (eq ^t t))", "(eq ^x2 x3)", "(eq a ^x2)",
		"(not ^x2)", "(and b ^x2 a)", "(or ^x2)", "(. d ^t)", "(. s ^c)", "(. d a ^c)", "(. (h 5) ^t)", "(. ^l2 a)",
	} {
		holdMark(t, s, 0, with, api.ErrNone)
	}
	for _, m := range []int{0, 1} {
		for _, f := range s.M[1-m].F {
			if _, ok := field(s, m, func(g api.FieldDef) bool { return g.Name == f.Name }); !ok {
				holdMark(t, s, m, "^"+f.Name, api.ErrNone)
			}
		}
	}
}

// P15.2: keys of each kind, at their edges, and those that are none.
func TestKeysInTexts(t *testing.T) {
	s := whole()
	for i, kind := range keyKinds {
		name := "k_" + kindNames[kind]
		no := byKey + i
		for _, n := range numbers {
			src := fmt.Sprintf("(has (. ^(%s %d)))", name, n)
			var want bool
			switch kind {
			case api.Int, api.Sint, api.Fix8:
				want = true
			case api.Uint, api.Fix4:
				want = 0 <= n && n <= math.MaxUint32
			}
			if !want {
				holdMark(t, s, maps, src, api.ErrType)
				holdMark(t, s, maps, fmt.Sprintf("(. ^(%s %d) int)", name, n), api.ErrType)
				continue
			}
			hold(t, s, maps, strings.Replace(src, "^", "", 1), ask(api.OpHas, api.TBool, byNum(no, n)))
			hold(t, s, maps, fmt.Sprintf("(. (%s %d) int)", name, n), ask(api.OpGet, api.TNum, byNum(no, n), step(alone)))
		}
		for word, n := range map[string]int64{"true": 1, "false": 0} {
			if kind == api.Flag {
				hold(t, s, maps, "(has (. ("+name+" "+word+")))", ask(api.OpHas, api.TBool, byNum(no, n)))
				hold(t, s, maps, "(. ("+name+" "+word+") text)", ask(api.OpGet, api.TText, byNum(no, n), step(alone+api.Text)))
				continue
			}
			holdMark(t, s, maps, "(has (. ^("+name+" "+word+")))", api.ErrType)
		}
		for word, key := range map[string]string{`""`: "", `"k"`: "k", `"true"`: "true", `"1"`: "1", `"\xff"`: "\xff", `"a b\n"`: "a b\n"} {
			if kind == api.Text {
				hold(t, s, maps, "(has (. ("+name+" "+word+")))", ask(api.OpHas, api.TBool, byText(no, key)))
				hold(t, s, maps, "(. ("+name+" "+word+") text)", ask(api.OpGet, api.TText, byText(no, key), step(alone+api.Text)))
				continue
			}
			holdMark(t, s, maps, "(has (. ^("+name+" "+word+")))", api.ErrType)
		}
		for _, word := range []string{"_", "k", "x", "True", ".", "()", "(true)", "(5)", `("k")`, `(raw "k")`} {
			holdMark(t, s, maps, "(has (. ^("+name+" "+word+")))", api.ErrType)
			holdMark(t, s, maps, "(. ^("+name+" "+word+") x)", api.ErrType)
		}
	}
	for _, f := range s.M[forms].F {
		for _, word := range []string{"5", "0", "true", "false", `"k"`, `""`, "x", "()"} {
			holdMark(t, s, forms, "(has (. ^("+f.Name+" "+word+")))", api.ErrType)
			holdMark(t, s, forms, "(. o_sub ^("+f.Name+" "+word+") x)", api.ErrType)
		}
	}
}

// P15.2: what a step with a key, or without, leads to has to go on, but of the last one.
func TestStepsThatDoNotGoOn(t *testing.T) {
	s := whole()
	for m := range msgs {
		for _, f := range s.M[m].F {
			if f.Kind == api.Sub && !f.Rep && f.Key == api.NoKey {
				holdMark(t, s, m, "(. "+f.Name+" ^nowhere)", api.ErrNone)
				continue
			}
			for _, next := range []string{"int", "nowhere", "5", "()", "(x)"} {
				holdMark(t, s, m, "(. ^"+f.Name+" "+next+")", api.ErrType)
				holdMark(t, s, m, "(count (. ^"+f.Name+" "+next+" x))", api.ErrType)
			}
		}
	}
	for _, kind := range kindNames {
		if kind == "sub" {
			hold(t, s, maps, `(. (t_sub "k") (s_sub 5) last)`, ask(api.OpGet, api.TText, byText(textToAny+api.Sub, "k"), byNum(numToAny+api.Sub, 5), step(api.MaxNo)))
			continue
		}
		holdMark(t, s, maps, `(. ^(t_`+kind+` "k") x)`, api.ErrType)
		holdMark(t, s, maps, `(. (t_sub "k") ^(s_`+kind+` 5) 5)`, api.ErrType)
	}
}

// asks are what each Op asks a path by, in the text.
var asks = map[int]string{
	api.OpGet: "%", api.OpHas: "(has %)", api.OpCount: "(count %)", api.OpSum: "(sum %)", api.OpMin: "(min %)", api.OpMax: "(max %)",
	api.OpAny: "(any % true)", api.OpAll: "(all % true)",
}

// P15.2: a path that leads elsewhere than it must is told where it begins, whatever it is asked; else the query is of its type.
func TestPathsThatLeadElsewhere(t *testing.T) {
	s := whole()
	for m := range msgs {
		for _, f := range s.M[m].F {
			srcs := map[string]api.Step{"(. " + f.Name + ")": step(f.No)}
			if f.Name != "true" && f.Name != "false" && f.Name != "_" {
				srcs[f.Name] = step(f.No)
			}
			if f.Key == api.Text {
				srcs["(. ("+f.Name+` "k"))`] = byText(f.No, "k")
			} else if f.Key == api.Flag {
				srcs["(. ("+f.Name+" true))"] = byNum(f.No, 1)
			} else if f.Key != api.NoKey {
				srcs["(. ("+f.Name+" 7))"] = byNum(f.No, 7)
			}
			for src, x := range srcs {
				for op, with := range asks {
					want, ok := wantAsked(f, x.Map)[op]
					if !ok {
						holdMark(t, s, m, strings.Replace(with, "%", "^"+src, 1), api.ErrType)
						continue
					}
					e := ask(op, want, x)
					if op == api.OpAny || op == api.OpAll {
						e.L = []api.Expr{truth(1)}
					}
					hold(t, s, m, strings.Replace(with, "%", src, 1), e)
				}
			}
		}
	}
}

// P15.2: at elements there is no path, and this is told where one begins, ahead of all that is wrong in it; an element is of their type.
func TestTextsAtElements(t *testing.T) {
	s := whole()
	for kind := range api.Raw + 1 {
		ahead := "(any r_" + kindNames[kind]
		for _, src := range []string{"int", "flag", "nowhere", "(. flag)", "(. nowhere)", "(. o_sub flag)", "(.)", "(. 5)", "(. x x)", "(. " + strings.Repeat("x ", 20) + ")"} {
			holdMark(t, s, forms, ahead+" ^"+src+")", api.ErrType)
			holdMark(t, s, forms, ahead+" (and true ^"+src+"))", api.ErrType)
			holdMark(t, s, forms, ahead+" (eq ^"+src+" x))", api.ErrType)
			holdMark(t, s, forms, ahead+" (not (ge ^"+src+" 5)))", api.ErrType)
		}
		for _, src := range []string{"(has ^o_int)", "(count ^r_int)", "(has ^x)", "(sum ^5)", "(min ^())", "(max ^(. r_int))", "(any ^r_int true)", "(all ^r_sub x)", "(any ^x 5)"} {
			holdMark(t, s, forms, ahead+" "+src+")", api.ErrType)
			holdMark(t, s, forms, ahead+" (or true "+src+" x))", api.ErrType)
		}
		ty := typeOf[kind]
		value := []string{"5", "false", `"s"`, `(raw "s")`}[ty]
		values := []api.Expr{num(5), truth(0), text("s"), raw("s")}
		hold(t, s, forms, ahead+" (eq _ "+value+"))", each(api.OpAny, join(api.OpEq, self(ty), values[ty]), step(repeated+kind)))
		hold(t, s, forms, ahead+" (or (ne "+value+" _) true))", each(api.OpAny, join(api.OpOr, join(api.OpNot, join(api.OpEq, values[ty], self(ty))), truth(1)), step(repeated+kind)))
		if ty == api.TBool {
			hold(t, s, forms, ahead+" _)", each(api.OpAny, self(api.TBool), step(repeated+kind)))
			holdMark(t, s, forms, ahead+" (lt ^_ _))", api.ErrType)
			continue
		}
		holdMark(t, s, forms, ahead+" ^_)", api.ErrType)
		hold(t, s, forms, ahead+" (gt _ "+value+"))", each(api.OpAny, join(api.OpLt, values[ty], self(ty)), step(repeated+kind)))
	}
	holdMark(t, s, forms, "(any r_sub ^_)", api.ErrType)
	holdMark(t, s, forms, "(any r_sub (any false (and _ ^flag)))", api.ErrType)
	holdMark(t, s, forms, "(and (any r_flag _) ^_)", api.ErrType)
	holdMark(t, s, forms, "(and (any r_sub (eq (. true) 1)) flag (eq ^last last))", api.ErrNone)
	hold(t, s, forms, "(and (any r_flag _) flag)", join(api.OpAnd, each(api.OpAny, self(api.TBool), step(repeated+api.Flag)), get(api.TBool, alone+api.Flag)))
}

// byType are texts of queries of each type, of message A.
var byType = [][]string{
	api.TNum:  {"5", "a", "(. s a)", "(count r)", "(sum r)", "(min r)", "e", "(. (n 5))"},
	api.TBool: {"true", "b", "(has s)", "(eq a 5)", "(ge a 5)", "(not b)", "(and b)", "(or b b)", "(any r true)", "(all z _)"},
	api.TText: {`"x"`, "t", "(. s w)"},
	api.TRaw:  {`(raw "x")`, "y", "(. (k true))"},
}

// P15.2: a query of another type than it must be is told where it begins.
func TestQueriesOfAnotherType(t *testing.T) {
	s := read(t, small)
	for ty, l := range byType {
		for _, src := range l {
			for _, with := range []string{"(any l %)", "(all l %)", "(not %)", "(and %)", "(or %)", "(and b %)", "(or b b % x)", "(any l (not %))", "(not (or b (all l %)))"} {
				if ty != api.TBool {
					holdMark(t, s, 0, strings.Replace(with, "%", "^"+src, 1), api.ErrType)
					continue
				}
				holdFine(t, s, 0, strings.Replace(strings.Replace(with, "%", src, 1), " x)", ")", 1))
			}
			for tz, others := range byType {
				for _, other := range others {
					for _, head := range []string{"eq", "ne", "lt", "le", "gt", "ge"} {
						ordered := head != "eq" && head != "ne"
						switch {
						case ordered && ty == api.TBool:
							holdMark(t, s, 0, "("+head+" ^"+src+" "+other+")", api.ErrType)
							holdMark(t, s, 0, "("+head+" ^"+src+" x2)", api.ErrType)
						case ty != tz:
							holdMark(t, s, 0, "("+head+" "+src+" ^"+other+")", api.ErrType)
						default:
							holdFine(t, s, 0, "("+head+" "+src+" "+other+")")
						}
					}
				}
			}
		}
	}
}

// P15.2: of two that are wrong the one that the chapter names first is told: what of a list itself is wrong, then its nodes, in order.
func TestWhichIsToldFirst(t *testing.T) {
	s := read(t, small)
	for src, err := range map[string]api.Errno{
		// A list that has not as many nodes, ahead of what is wrong with these.
		"^(eq x)": api.ErrType, "^(eq x y z)": api.ErrType, "^(raw x y)": api.ErrType, "^(has x x)": api.ErrType, "^(any x)": api.ErrType, "^(not)": api.ErrType, "^(le x x x)": api.ErrType,
		"^(x2 x3)": api.ErrType,
		// The first node, ahead of the second one.
		"(eq ^x2 x3)": api.ErrNone, "(eq ^s x3)": api.ErrType, "(eq ^() x3)": api.ErrType, "(lt ^b x3)": api.ErrType, "(gt ^b x3)": api.ErrType, "(gt ^x2 b)": api.ErrNone,
		"(le ^x2 (x3))": api.ErrNone, "(ge ^b b)": api.ErrType, "(le ^true x3)": api.ErrType, "(gt a ^x3)": api.ErrNone, "(gt a ^t)": api.ErrType, "(le a ^b)": api.ErrType,
		"(and ^a x3)": api.ErrType, "(and b ^a x3)": api.ErrType, "(or b ^x2 a)": api.ErrNone, "(or ^x2 a)": api.ErrNone, "(and (not ^a2) 5)": api.ErrNone, "(and (not ^a) 5)": api.ErrType,
		"(and b ^(any l) x3)": api.ErrType, "(and b (any ^a x2) x3)": api.ErrType,
		// What is wrong with a query, ahead of its type.
		"(not ^(x2))": api.ErrType, "(not (eq ^x2 1))": api.ErrNone, "(not ^5)": api.ErrType, "(not (sum ^x2))": api.ErrNone, "(not ^(sum r))": api.ErrType, "(not (sum ^a))": api.ErrType,
		"(not ^(raw 5))": api.ErrType, "(not ^(raw \"x\"))": api.ErrType, "(lt (not ^5) 5)": api.ErrType, "(lt ^(not b) 5)": api.ErrType, "(eq 5 (not ^5))": api.ErrType, "(eq 5 ^(not b))": api.ErrType,
		// A path, ahead of the query behind it.
		"(any ^x2 x3)": api.ErrNone, "(any ^a x3)": api.ErrType, "(any ^m x3)": api.ErrType, "(any (. ^a l) x3)": api.ErrType, "(any l ^x3)": api.ErrNone, "(any l ^a)": api.ErrType, "(all ^5 x3)": api.ErrType,
		"(any r ^x3)": api.ErrType, "(any r ^5)": api.ErrType, "(any (. s ^l l) x3)": api.ErrType,
		// A path's form, ahead of its steps; these in order; then where it leads.
		"^(.)": api.ErrType, "(. ^x2 5)": api.ErrNone, "(. ^5 x2)": api.ErrType, "(. s ^5 x2)": api.ErrType, "(. ^a x2)": api.ErrType, "(. ^l x2)": api.ErrType, "(. ^m 5)": api.ErrType, "(. s ^x2 5)": api.ErrNone,
		"(. ^(s 5) x2)": api.ErrType, "(. ^(m 5) x2)": api.ErrType, "(. (^x2 5) x3)": api.ErrNone, "(. ^(k true) x2)": api.ErrType, "(. ^(k 1) x2)": api.ErrType,
		"(. (m \"k\") ^x2)": api.ErrNone, "^(. s s)": api.ErrType, "^(. s l)": api.ErrType, "^(. (m \"k\"))": api.ErrType, "(has ^(. s a))": api.ErrType, "(count ^(. s s a))": api.ErrType, "(sum ^(. s u))": api.ErrType,
		"(has (. s ^x2))": api.ErrNone, "(has (. ^a s))": api.ErrType, "(any ^(. s s) x3)": api.ErrType, "(any ^(. s k) x3)": api.ErrType,
		// A step's form, then its field, its key, and where it leads.
		"(. ^(x2) x3)": api.ErrType, "(. ^(x2 5 5))": api.ErrType, "(. ^(5 x2))": api.ErrType, "(. (^x2 x3))": api.ErrNone, "(. ^(a x3))": api.ErrType, "(. ^(m x3) x4)": api.ErrType, "(. ^(n -1) x4)": api.ErrType,
		// At elements a path is wrong by itself.
		"(any r ^(. 5))": api.ErrType, "(any r (has ^(5)))": api.ErrType, "(any r ^(has))": api.ErrType, "(any r ^(any r))": api.ErrType, "(any r (eq ^a x2))": api.ErrType, "(any r (eq _ ^a))": api.ErrType, "(any r (eq _ ^\"\"))": api.ErrType,
	} {
		holdMark(t, s, 0, src, err)
		holdMark(t, s, 0, "(and b "+src+" x9)", err)
		holdMark(t, s, 0, "(any l (or "+src+" (x9)))", err)
	}
}

// P15.2: as many lists as a text may have within one another, so that the most queries stand within one another: these are still queries.
func TestTextsThatAreDeep(t *testing.T) {
	s := read(t, small)
	for _, c := range []struct{ ahead, leaf, behind string }{
		{"(not ", "b", ")"}, {"(and b ", "true", " b)"}, {"(any l ", "b", ")"}, {"(ne b ", "b", ")"}, {"(ne ", "b", " b)"}, {"(or b (ne ", "b", " true))"}, {"(all l (ne ", "(has s)", " b))"},
	} {
		for many := range 17 {
			src := strings.Repeat(c.ahead, many) + c.leaf + strings.Repeat(c.behind, many)
			lists := strings.Count(src, "(") - strings.Count(src, "(has s)") + 1
			if _, _, err := sexp.Parse(src); err != api.OK {
				if lists < 17 {
					t.Errorf("%s: %d", src, err)
				}
				continue
			}
			holdFine(t, s, 0, src)
			mark := strings.Repeat(c.ahead, many) + "^x" + strings.Repeat(c.behind, many)
			holdMark(t, s, 0, mark, api.ErrNone)
		}
	}
	e, _, _ := typing.Read(s, 0, strings.Repeat("(ne b ", 15)+"(ge a 5)"+strings.Repeat(")", 15))
	if wantTree(e) != 33 || !typing.May(s, 0, e) {
		t.Errorf("%d within one another", wantTree(e))
	}
}

// atPlaces is a node each of whose nodes begins at another place, told by how many have been.
func atPlaces(n api.Node, next func() int) api.Node {
	out := n
	out.At, out.L = next(), nil
	for _, x := range n.L {
		out.L = append(out.L, atPlaces(x, next))
	}
	return out
}

// P15.2: where a node begins is what the node tells, whatever that is.
func TestPlacesAreWhatNodesTell(t *testing.T) {
	s := read(t, small)
	for _, src := range []string{"x2", "_", ".", "()", "(x2)", "(raw 5)", "(eq a t)", "(gt b a)", "(. s x2)", "(. (x2 5))", "(. a a)", "(. (n -1))", "(has a)", "(any r 5)", "(any r a)", "(and b x2)", "(not (not 5))", "(eq a)", "(all l (has (. s ())))", "(le t \"x\")"} {
		for _, by := range []int{1, -1, 7, 1 << 40, -1 << 40} {
			last := by * 3
			n := atPlaces(parsed(t, src), func() int { last += by; return last })
			holdOf(t, s, 0, n)
		}
		e, _, err := typing.Of(s, 0, atPlaces(parsed(t, src), func() int { return math.MinInt64 }))
		f, at, errAgain := typing.Of(s, 0, atPlaces(parsed(t, src), func() int { return 0 }))
		if !alike(e, f) || at != 0 || err != errAgain {
			t.Errorf("%s: %s, %d, %d", src, show(f), at, errAgain)
		}
	}
}

// P15.2: ErrArg of a schema that may not be, of a message that is not there, and of a node that may not be, ahead of all else.
func TestWrongArguments(t *testing.T) {
	s := whole()
	right := []string{"5", "int", "(gt int 5)", "(any r_sub true)", "nowhere", "()", "(not 5)"}
	holdArg := func(what string, s api.Schema, m int, n api.Node) {
		t.Helper()
		if e, at, err := typing.Of(s, m, n); err != api.ErrArg || at != 0 || !alike(e, api.Expr{}) {
			t.Errorf("%s: %s, %d, %d", what, show(e), at, err)
		}
	}
	for _, src := range right {
		n := atPlaces(parsed(t, " "+src), func() int { return 9 })
		for i, wrong := range wrongSchemas() {
			for m := -1; m < msgs; m++ {
				holdArg(fmt.Sprintf("schema %d, %s", i, src), wrong, m, n)
			}
		}
		for _, m := range noMessages {
			holdArg(fmt.Sprintf("message %d, %s", m, src), s, m, n)
		}
		if _, _, err := typing.Of(s, forms, n); err == api.ErrArg {
			t.Errorf("%s: ErrArg", src)
		}
	}
	for i, n := range []api.Node{
		{}, {Kind: -1}, {Kind: 5, Text: "a"}, {Kind: api.Name}, {Kind: api.Name, Text: "int int"}, {Kind: api.Name, Text: "int "}, {Kind: api.Name, Text: "int", N: 1},
		{Kind: api.Num, Text: "5", N: 6}, {Kind: api.Num, N: 5}, {Kind: api.Num, Text: "05", N: 5}, {Kind: api.Str, N: 1}, {Kind: api.Sign, Text: "("}, {Kind: api.Sign},
		{Kind: api.Name, Text: "int", L: make([]api.Node, 1)}, {Kind: api.Str, L: make([]api.Node, 1)}, {Kind: api.List, Text: "x"}, {Kind: api.List, N: 1},
		nodeChain(17, api.Node{Kind: api.Name, Text: "int"}), nodeChain(16, api.Node{Kind: api.List}), nodeChain(1<<16, api.Node{}),
	} {
		n.At = 9
		holdArg(fmt.Sprintf("node %d", i), s, forms, n)
		eq := []api.Node{{Kind: api.Name, Text: "eq"}, {Kind: api.Num, Text: "5", N: 5}, n}
		holdArg(fmt.Sprintf("a list of node %d", i), s, forms, api.Node{Kind: api.List, L: eq, At: 3})
		holdArg(fmt.Sprintf("a wrong list of node %d", i), s, forms, api.Node{Kind: api.List, L: append(eq, n), At: 3})
	}
	list := api.Node{Kind: api.List, L: make([]api.Node, 3)}
	for i := range list.L {
		list.L[i] = list
	}
	holdArg("a list that has itself", s, forms, list)
	holdMark(t, s, forms, nodeText("^(x2)"), api.ErrType)
}

// nodeChain is a node within so many lists that are `not`, nodeText the text of one within fifteen.
func nodeChain(lists int, n api.Node) api.Node {
	for range lists {
		n = api.Node{Kind: api.List, L: []api.Node{{Kind: api.Name, Text: "not"}, n}}
	}
	return n
}

func nodeText(src string) string {
	return strings.Repeat("(not ", 15) + src + strings.Repeat(")", 15)
}

// P15.3: what Parse tells of a text is told, with its place, ahead of what else is wrong; else what Of tells of that node.
func TestRead(t *testing.T) {
	s := read(t, small)
	for src, want := range map[string]fault{
		"": {0, api.ErrForm}, " ": {1, api.ErrForm}, "(": {1, api.ErrForm}, ")": {0, api.ErrForm}, "(eq a 5": {7, api.ErrForm}, "a b": {2, api.ErrForm}, "(eq a 5))": {8, api.ErrForm},
		"(x2 <": {4, api.ErrForm}, "(eq a 05)": {6, api.ErrForm}, "(eq t \"x)": {6, api.ErrForm}, "(x2 ?": {4, api.ErrForm}, "a;": {1, api.ErrForm},
		strings.Repeat("(", 17): {16, api.ErrLong}, strings.Repeat(" ", 5001): {0, api.ErrLong}, strings.Repeat("(not ", 17): {80, api.ErrLong}, "(and" + strings.Repeat(" b", 999) + ")": {2001, api.ErrLong},
	} {
		for _, schema := range append(wrongSchemas(), s) {
			for _, m := range []int{0, 1, -1, 2, 100} {
				if e, at, err := typing.Read(schema, m, src); (fault{at, err}) != want || !alike(e, api.Expr{}) {
					t.Errorf("%.40s: %s, %d, %d, not %d, %d", src, show(e), at, err, want.at, want.err)
				}
			}
		}
	}
	for _, src := range []string{"5", "a", "x2", "(gt a 5)", "(any r (gt _ 3))", " (eq a t)", "(x2)", "_"} {
		for _, schema := range append(wrongSchemas(), s) {
			for _, m := range []int{0, 1, -1, 2, 100} {
				e, at, err := typing.Read(schema, m, src)
				want, wantAt, wantErr := typing.Of(schema, m, parsed(t, src))
				if !alike(e, want) || at != wantAt || err != wantErr {
					t.Errorf("%s: %s, %d, %d, not %s, %d, %d", src, show(e), at, err, show(want), wantAt, wantErr)
				}
			}
		}
		if _, _, err := typing.Read(s, 2, src); err != api.ErrArg {
			t.Errorf("%s of no message: %d", src, err)
		}
	}
	many := "(and" + strings.Repeat(" b", 997) + ")"
	if e, at, err := typing.Read(s, 0, many); err != api.OK || at != 0 || len(e.L) != 997 {
		t.Errorf("a text of 1000 tokens: %d, %d", at, err)
	}
}

// P15.4: what is told of texts of each type is a query of that type at its message, and that of the whole text of them too.
func TestWhatIsToldIsAQuery(t *testing.T) {
	s := read(t, small)
	for ty, l := range byType {
		for _, src := range l {
			e, at, err := typing.Read(s, 0, src)
			if err != api.OK || at != 0 || e.T != ty || !typing.May(s, 0, e) {
				t.Errorf("%s: %s, %d, %d", src, show(e), at, err)
			}
			if e, _, err := typing.Read(s, 1, src); err == api.OK && !typing.May(s, 1, e) {
				t.Errorf("%s: %s is no query at B", src, show(e))
			}
			within := "(any (. q (m \"k\") l) (and (has s) (or (ne " + src + " " + src + ") false)))"
			e, at, err = typing.Read(s, 0, within)
			if err != api.OK || at != 0 || e.T != api.TBool || !typing.May(s, 0, e) {
				t.Errorf("%s: %s, %d, %d", within, show(e), at, err)
			}
		}
	}
}

// R3, P15.2: what is answered is the caller's own: no two lists of it are one, and later changes change nothing else.
func TestWhatIsToldIsOwn(t *testing.T) {
	s := read(t, small)
	for _, src := range []string{"(le a (count r))", "(gt (. s a) (. s a))", "(ne (. (n 5)) (sum (. s r)))", "(and (has s) (any l (all r (ge _ 5))) (or b b b b b))", "(any (. s s s l) (eq (. s s s a) (. s s s a)))"} {
		n := parsed(t, src)
		before := ownNode(n)
		first, _, err := typing.Of(s, 0, n)
		again, _, _ := typing.Of(s, 0, n)
		if err != api.OK || shared(first, again) || !alike(first, again) {
			t.Fatalf("%s: %s, %d", src, show(first), err)
		}
		for _, p := range parts(&first, 0) {
			for i := range p.n.P[:cap(p.n.P)] {
				p.n.P[:cap(p.n.P)][i] = step(77)
			}
			p.n.S, p.n.N = "changed", 77
		}
		third, _, _ := typing.Read(s, 0, src)
		if !alike(third, again) || !reflect.DeepEqual(ownNode(n), before) || !reflect.DeepEqual(s, read(t, small)) {
			t.Errorf("%s: %s became %s", src, show(again), show(third))
		}
		clear(n.L)
		if !alike(third, again) {
			t.Errorf("%s: a query that a node's list is one of", src)
		}
	}
}

// R3, P15.2: what is handed in stays as it was, room behind its lists too.
func TestNodesStayAsTheyWere(t *testing.T) {
	s := read(t, small)
	for _, src := range []string{"(gt a 5)", "(le t \"x\")", "(. s a)", "(. (n 5))", "(and b b)", "(any l (ge a 5))", "(eq a t)", "(. s x2)"} {
		n := parsed(t, src)
		full := append(make([]api.Node, 0, 2*len(n.L)+2), n.L...)
		room := full[:cap(full)]
		for i := len(n.L); i < len(room); i++ {
			room[i] = api.Node{Kind: api.Name, Text: "room"}
		}
		n.L = full
		holdOf(t, s, 0, n)
		for i := len(n.L); i < len(room); i++ {
			if room[i].Text != "room" {
				t.Errorf("%s: the room behind became %+v", src, room[i])
			}
		}
	}
}

// R5, P15.2: what is told hangs on nothing that was asked before, nor on where.
func TestTheSameIsToldAgain(t *testing.T) {
	s, other := read(t, small), whole()
	var first []string
	for round := range 3 {
		for i, src := range []string{"a", "(gt a 5)", "(any r (gt _ 3))", "x2", "(not 5)", "(has (. (k true)))", "int", "(eq c 5)"} {
			e, at, err := typing.Read(s, 0, src)
			told := fmt.Sprint(show(e), at, err)
			if round == 0 {
				first = append(first, told)
			}
			if told != first[i] {
				t.Errorf("%s: %s, not %s", src, told, first[i])
			}
			typing.Read(other, i%msgs, src)
			typing.Read(s, 1, src)
			typing.May(other, i%msgs, e)
		}
	}
}
