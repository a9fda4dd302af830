package eval_test

import (
	"strings"
	"testing"

	"truffle/api"
	"truffle/eval"
	"truffle/typing"
)

// P16.2: what is given tells itself, with its type.
func TestGiven(t *testing.T) {
	s := read(t, small)
	for _, n := range []int64{0, 1, 2, -1, least, greatest} {
		holdTold(t, s, 0, number(n), some(), api.Result{T: api.TNum, N: n}, api.OK)
	}
	holdTold(t, s, 0, truth(0), some(), api.Result{T: api.TBool}, api.OK)
	holdTold(t, s, 0, truth(1), some(), api.Result{T: api.TBool, N: 1}, api.OK)
	for _, x := range []string{"", "x", "\xff", "é", strings.Repeat("x", 9000)} {
		holdTold(t, s, 0, text(x), some(), api.Result{T: api.TText, S: x}, api.OK)
		holdTold(t, s, 0, raw(x), some(), api.Result{T: api.TRaw, S: x}, api.OK)
	}
	holdTold(t, s, 1, number(5), api.Msg{}, api.Result{N: 5}, api.OK)
	holdTold(t, whole(), none, truth(1), api.Msg{}, yes(true), api.OK)
}

// P16.2: OpGet tells the value that is there; 0, or empty, with its type, if it is not.
func TestGet(t *testing.T) {
	s := read(t, small)
	x := msg(slot(1, num(7)), slot(3, str("x")), slot(4, sub(slot(1, num(-9)), slot(15, str("\xff")))), slot(8, str("")), slot(13, num(-5)), slot(15, str("\x00")), slot(17, num(1)),
		pairs(5, strs("k"), []api.Val{sub(slot(3, str("in")))}), pairs(10, nums(1, 0, 1), strs("old", "", "new")), pairs(18, nums(7, 0), nums(0, least)))
	for src, want := range map[string]api.Result{
		"a": {T: api.TNum, N: 7}, "t": {T: api.TText, S: "x"}, "e": {T: api.TNum, N: -5}, "y": {T: api.TRaw, S: "\x00"}, "b": {T: api.TBool, N: 1},
		"w": {T: api.TText}, "p": {T: api.TBool}, "(. a)": {T: api.TNum, N: 7},
		"(. s a)": {T: api.TNum, N: -9}, "(. s y)": {T: api.TRaw, S: "\xff"}, "(. s t)": {T: api.TText}, "(. s e)": {T: api.TNum}, "(. s b)": {T: api.TBool}, "(. s s y)": {T: api.TRaw},
		`(. (m "k") t)`: {T: api.TText, S: "in"}, `(. (m "k") a)`: {T: api.TNum}, `(. (m "l") t)`: {T: api.TText}, `(. q (m "k") t)`: {T: api.TText},
		"(. (k true))": {T: api.TRaw, S: "new"}, "(. (k false))": {T: api.TRaw}, "(. s (k true))": {T: api.TRaw},
		"(. (n 7))": {T: api.TNum}, "(. (n 0))": {T: api.TNum, N: least}, "(. (n 1))": {T: api.TNum},
		"(. d c)": {T: api.TNum}, "(. (h -1) b)": {T: api.TBool},
	} {
		holdText(t, s, src, x, want, api.OK)
	}
	for _, src := range []string{"a", "t", "e", "y", "b", "w", "p"} {
		e := query(t, s, 0, src)
		holdTold(t, s, 0, e, api.Msg{}, api.Result{T: e.T}, api.OK)
	}
}

// P16.2: OpGet of each kind, each value, alone, in a oneof, and by a key.
func TestGetOfAllKinds(t *testing.T) {
	s := whole()
	for kind, ty := range typeOf {
		for _, v := range values(kind) {
			for _, no := range []int{alone + kind, inOne + kind} {
				holdTold(t, s, forms, ask(api.OpGet, ty, step(no)), msg(slot(no, v)), said(ty, v), api.OK)
				holdTold(t, s, forms, ask(api.OpGet, ty, step(no)), msg(slot(repeated+kind, v)), said(ty, num(0)), api.OK)
			}
			in := msg(pairs(textToAny+kind, strs("a", "k"), []api.Val{values(kind)[0], v}))
			for _, key := range []string{"a", "k", "z"} {
				want := map[string]api.Val{"k": v}[key]
				holdTold(t, s, maps, ask(api.OpGet, ty, byText(textToAny+kind, key)), in, said(ty, want), api.OK)
			}
			in = msg(slot(alone+api.Sub, sub(pairs(numToAny+kind, nums(-7, 7), []api.Val{v, values(kind)[0]}))))
			for _, key := range []int64{-7, 7, 0} {
				want := map[int64]api.Val{-7: v}[key]
				holdTold(t, s, forms, ask(api.OpGet, ty, step(alone+api.Sub), byNum(numToAny+kind, key)), in, said(ty, want), api.OK)
			}
		}
	}
}

// P16.2: OpHas of a message, of a field in a oneof, also of a default value, and of a key.
func TestHas(t *testing.T) {
	s := read(t, small)
	holdYes(t, s, some(), true, "(has s)", "(has p)", "(has (. s s))", "(has (. s p))", `(has (. (m "b")))`, `(has (. (m "a")))`, `(has (. (m "")))`, "(has (. (k true)))", "(has (. (k false)))", "(has (. (n 0)))", "(has (. (h 5)))")
	holdYes(t, s, some(), false, "(has q)", "(has w)", "(has d)", "(has (. s s s))", "(has (. s q))", "(has (. q s))", "(has (. q p))", `(has (. (m "c")))`, `(has (. s (m "b")))`, `(has (. (m "b") s))`, `(has (. (m "c") s))`, "(has (. (n 1)))", "(has (. (h 0)))", `(has (. (m "\xff")))`)
	holdYes(t, s, msg(slot(8, str(""))), true, "(has w)")
	holdYes(t, s, msg(slot(7, sub())), true, "(has q)")
	holdYes(t, s, msg(slot(7, sub())), false, "(has p)", "(has w)", "(has s)", "(has (. q q))")
	holdYes(t, s, msg(slot(4, sub())), true, "(has s)")
	holdYes(t, s, msg(), false, "(has s)", "(has p)", "(has q)", "(has w)", `(has (. (m "b")))`, "(has (. (k false)))")
	holdYes(t, s, msg(pairs(10, nums(0), strs(""))), true, "(has (. (k false)))")
	holdYes(t, s, msg(pairs(10, nums(0), strs(""))), false, "(has (. (k true)))")
}

// P16.2: OpCount tells how many values there are, of a map how many keys.
func TestCount(t *testing.T) {
	s := read(t, small)
	for src, want := range map[string]int64{
		"(count r)": 3, "(count l)": 3, "(count u)": 3, "(count z)": 2, "(count v)": 0, "(count g)": 3, "(count m)": 3, "(count k)": 2, "(count n)": 3, "(count h)": 2,
		"(count (. s r))": 2, "(count (. s l))": 0, "(count (. q r))": 0, `(count (. (m "b") r))`: 0, `(count (. (m "z") m))`: 0, "(count (. s s n))": 0,
	} {
		holdText(t, s, src, some(), api.Result{T: api.TNum, N: want}, api.OK)
	}
	for _, src := range []string{"(count r)", "(count l)", "(count m)", "(count k)"} {
		holdText(t, s, src, api.Msg{}, api.Result{T: api.TNum}, api.OK)
	}
	many := make([]api.Val, 70000)
	holdText(t, s, "(count r)", msg(slot(2, many...)), api.Result{T: api.TNum, N: 70000}, api.OK)
	holdText(t, s, "(count m)", msg(pairs(5, strs("b", "a", "b", "b"), []api.Val{sub(), sub(), sub(), sub()})), api.Result{T: api.TNum, N: 2}, api.OK)
}

// P16.2: OpSum of none is 0; of more their sum, or ErrOver, whatever the first ones come to.
func TestSumOfValues(t *testing.T) {
	s := read(t, small)
	told := func(want int64, err api.Errno, l ...int64) {
		t.Helper()
		holdText(t, s, "(sum r)", msg(slot(2, nums(l...)...)), api.Result{T: api.TNum, N: want}, err)
		holdText(t, s, "(sum (. d r))", msg(slot(19, sub(slot(2, nums(l...)...)))), api.Result{T: api.TNum, N: want}, err)
	}
	told(0, api.OK)
	told(0, api.OK, 0)
	told(6, api.OK, 3, -1, 4)
	told(greatest, api.OK, greatest)
	told(greatest, api.OK, greatest-1, 1)
	told(least, api.OK, -1, least+1)
	told(greatest, api.OK, greatest, 1, -1)
	told(-2, api.OK, least, least, greatest, greatest)
	told(0, api.ErrOver, greatest, 1)
	told(0, api.ErrOver, least, -1)
	told(0, api.ErrOver, greatest, greatest, 2)
	holdText(t, s, "(sum (. s r))", some(), api.Result{}, api.ErrOver)
	holdText(t, s, "(sum r)", api.Msg{}, api.Result{T: api.TNum}, api.OK)
	holdText(t, s, "(sum (. q r))", some(), api.Result{T: api.TNum}, api.OK)
}

// P16.2: OpMin and OpMax tell the least and the greatest one; ErrEmpty, if there are none.
func TestLeastAndGreatest(t *testing.T) {
	s := read(t, small)
	told := func(low, high int64, l ...int64) {
		t.Helper()
		x := msg(slot(2, nums(l...)...), slot(19, sub(slot(2, nums(l...)...))))
		for src, want := range map[string]int64{"(min r)": low, "(max r)": high, "(min (. d r))": low, "(max (. d r))": high} {
			holdText(t, s, src, x, api.Result{T: api.TNum, N: want}, api.OK)
		}
	}
	told(0, 0, 0)
	told(5, 5, 5)
	told(-5, -5, -5)
	told(-1, 4, 3, -1, 4)
	told(-1, 4, 4, -1)
	told(-1, 4, -1, 4)
	told(2, 2, 2, 2, 2)
	told(least, greatest, 0, greatest, least, 1)
	told(0, 1, 0, 1)
	told(-1, 0, 0, -1)
	for _, src := range []string{"(min r)", "(max r)", "(min (. s r))", "(max (. s r))", "(min (. d r))", "(max (. d r))", `(min (. (m "z") r))`, `(max (. (m "z") r))`} {
		holdText(t, s, src, msg(slot(1, num(5)), slot(2), slot(19, sub())), api.Result{}, api.ErrEmpty)
	}
}

// P16.2: OpSum, OpMin and OpMax of repeated fields of each kind that is a number.
func TestReckonedOfAllKinds(t *testing.T) {
	s := whole()
	for kind, ty := range typeOf {
		if ty != api.TNum {
			continue
		}
		l := values(kind)
		for i := range len(l) + 1 {
			for _, op := range []int{api.OpSum, api.OpMin, api.OpMax} {
				hold(t, s, forms, ask(op, ty, step(repeated+kind)), msg(slot(repeated+kind, l[:i]...)))
			}
		}
		holdTold(t, s, forms, ask(api.OpMax, ty, step(repeated+kind)), msg(slot(repeated+kind, num(0), num(1))), said(ty, num(1)), api.OK)
		holdTold(t, s, forms, ask(api.OpSum, ty, step(repeated+kind)), msg(slot(repeated+kind, num(1), num(1))), said(ty, num(2)), api.OK)
	}
	holdTold(t, s, forms, ask(api.OpSum, api.TNum, step(repeated+api.Uint)), msg(slot(repeated+api.Uint, nums(1<<32-1, 1<<32-1)...)), said(api.TNum, num(1<<33-2)), api.OK)
	holdTold(t, s, forms, ask(api.OpSum, api.TNum, step(repeated+api.Enum)), msg(slot(repeated+api.Enum, nums(-1<<31, -1<<31)...)), said(api.TNum, num(-1<<32)), api.OK)
}

// P16.2: OpEq and OpLt of two of each type; of texts byte by byte, and what is shorter is less.
func TestEqAndLt(t *testing.T) {
	s := read(t, small)
	rising := map[int][]api.Val{
		api.TNum:  nums(least, least+1, -1, 0, 1, 2, greatest-1, greatest),
		api.TBool: nums(0, 1),
		api.TText: strs("", "\x00", "A", "Z", "a", "aa", "ab", "b", "ba", "z", "é", "\uffff", "\U00010000", "\xff"),
		api.TRaw:  strs("", "\x00", "\x00\x00", "\x7f", "\x80", "\xfe\xff\xff", "\xff", "\xff\x00"),
	}
	for ty, l := range rising {
		for i, a := range l {
			for j, b := range l {
				holdTold(t, s, 0, join(api.OpEq, given(ty, a), given(ty, b)), api.Msg{}, yes(i == j), api.OK)
				if ty == api.TBool {
					continue
				}
				holdTold(t, s, 0, join(api.OpLt, given(ty, a), given(ty, b)), api.Msg{}, yes(i < j), api.OK)
			}
		}
	}
}

// P16.2: OpEq and OpLt of what paths tell, what is not there too, and of others made of these.
func TestEqAndLtOfPaths(t *testing.T) {
	s := read(t, small)
	holdYes(t, s, some(), true, "(eq a 7)", `(eq t "x")`, `(lt t "xa")`, `(lt t "y")`, `(lt "" t)`, "(eq a (. a))", "(lt a 8)", "(le a 7)", "(ge a 7)", "(gt a 6)", "(ne a 8)",
		"(eq (. q a) 0)", `(eq (. q t) "")`, `(eq y (raw ""))`, `(eq (. (k true)) (raw "\xff"))`, "(eq p false)", "(eq p (. q p))", "(eq (has s) true)", "(eq (has q) (has w))", "(eq b (not true))",
		"(eq (count r) 3)", "(eq (count m) (count r))", "(lt (count k) (count r))", "(eq (min r) -1)", "(lt (min r) (max r))", "(eq (sum r) 6)", "(lt (. (n 4294967295)) (. (n 1)))", `(lt (raw "") (. (k true)))`, "(eq (eq a 7) true)", "(ne (lt a 7) true)")
	holdYes(t, s, some(), false, "(eq a 8)", `(eq t "xa")`, `(lt t "x")`, `(lt t "")`, `(lt t "w")`, "(lt a 7)", "(le a 6)", "(ge a 8)", "(gt a 7)", "(ne a 7)",
		"(eq (. q a) 1)", `(eq (. q t) "x")`, "(eq p true)", "(eq (has s) (has q))", "(lt (max r) (min r))", "(eq (eq a 7) false)", `(lt (. (k true)) (raw "\xff"))`)
}

// P16.2: OpNot, OpAnd and OpOr of all answers, of up to four.
func TestNotAndOr(t *testing.T) {
	s := read(t, small)
	holdTold(t, s, 0, join(api.OpNot, truth(0)), api.Msg{}, yes(true), api.OK)
	holdTold(t, s, 0, join(api.OpNot, truth(1)), api.Msg{}, yes(false), api.OK)
	for many := 1; many <= 4; many++ {
		for which := range 1 << many {
			var l []api.Expr
			for i := range many {
				l = append(l, truth(int64(which>>i&1)))
			}
			holdTold(t, s, 0, join(api.OpAnd, l...), some(), yes(which == 1<<many-1), api.OK)
			holdTold(t, s, 0, join(api.OpOr, l...), some(), yes(which != 0), api.OK)
		}
	}
	holdYes(t, s, some(), true, "(not (eq a 8))", "(not p)", "(and (has s) (eq a 7))", "(and (not p))", "(or p (has s))", "(or (has q) (not p))", "(not (not (has s)))", "(not (and true false))", "(or (and true false) (not (or false p)))")
	holdYes(t, s, some(), false, "(not (eq a 7))", "(and (has s) (eq a 8))", "(and p)", "(and (has s) p)", "(or p)", "(or (has q) p (eq a 8))", "(not (or true false))")
	e := truth(1)
	for i := range 39 {
		e = join(api.OpNot, e)
		holdTold(t, s, 0, e, api.Msg{}, yes(i%2 == 1), api.OK)
	}
	holdTold(t, s, 0, join(api.OpNot, e), api.Msg{}, api.Result{}, api.ErrArg)
}

// P16.2, P16.3: what is no query at the message, and what is not of it, is ErrArg, and nothing else.
func TestErrArg(t *testing.T) {
	s := read(t, small)
	holdArg := func(s api.Schema, m int, e api.Expr, x api.Msg) {
		t.Helper()
		holdTold(t, s, m, e, x, api.Result{}, api.ErrArg)
	}
	for _, e := range []api.Expr{
		{Op: -1}, {Op: api.Ops}, {Op: 1 << 40}, {T: api.Types}, {T: -1}, {T: api.TBool}, {N: 5, S: "x"}, {P: path(1)}, {L: []api.Expr{{}}},
		self(api.TNum), self(api.TBool), self(-1), join(api.OpEq, self(api.TNum), number(1)), truth(2), truth(-1),
		ask(api.OpGet, api.TNum), ask(api.OpGet, api.TText, step(1)), ask(api.OpGet, api.TNum, step(99)), ask(api.OpGet, api.TNum, step(2)), ask(api.OpGet, api.TNum, step(4)),
		ask(api.OpHas, api.TBool, step(1)), ask(api.OpHas, api.TBool, step(9)), ask(api.OpCount, api.TNum, step(1)), ask(api.OpCount, api.TNum, byText(5, "b")),
		ask(api.OpSum, api.TNum, step(11)), ask(api.OpMin, api.TNum, step(12)), ask(api.OpMax, api.TNum, step(5)), ask(api.OpMax, api.TNum, step(9)),
		join(api.OpEq), join(api.OpEq, number(1)), join(api.OpEq, number(1), text("")), join(api.OpEq, number(1), number(1), number(1)), join(api.OpLt, truth(0), truth(1)),
		join(api.OpNot), join(api.OpNot, number(0)), join(api.OpNot, truth(0), truth(0)), join(api.OpAnd), join(api.OpOr), join(api.OpAnd, truth(1), number(1)),
		each(api.OpAny, truth(1), step(1)), each(api.OpAny, truth(1), step(5)), each(api.OpAll, number(1), step(2)), each(api.OpAll, truth(1)),
		{Op: api.OpAny, T: api.TBool, P: path(2)}, each(api.OpAny, ask(api.OpGet, api.TBool, step(17)), step(2)), each(api.OpAny, join(api.OpEq, self(api.TText), text("")), step(2)),
		// What would be told does not count.
		join(api.OpAnd, ask(api.OpGet, api.TBool, step(17)), join(api.OpEq, ask(api.OpSum, api.TNum, step(4), step(2)), ask(api.OpMin, api.TNum, step(99)))),
	} {
		if typing.May(s, 0, e) {
			t.Fatalf("%s may be", show(e))
		}
		holdArg(s, 0, e, some())
		holdArg(s, 0, e, api.Msg{})
		holdArg(s, 0, e, msg(slot(99)))
	}
	for what, x := range wrongs() {
		for _, e := range []api.Expr{number(5), ask(api.OpGet, api.TNum, step(1)), ask(api.OpMax, api.TNum, step(2)), each(api.OpAny, truth(1), step(2))} {
			if r, err := eval.Eval(s, 0, e, x); r != (api.Result{}) || err != api.ErrArg {
				t.Errorf("%s: %+v, %d", what, r, err)
			}
			hold(t, s, 0, e, x)
		}
	}
	for _, s := range wrongSchemas() {
		holdArg(s, 0, number(5), api.Msg{})
		holdArg(s, forms, ask(api.OpGet, api.TNum, step(alone)), msg(slot(alone, num(5))))
	}
	for _, m := range noMessages {
		holdArg(whole(), m, number(5), api.Msg{})
	}
	// A query of one message, and a message of another one.
	e := ask(api.OpGet, api.TNum, step(1))
	holdTold(t, s, 1, e, msg(slot(1, num(5))), api.Result{N: 5}, api.OK)
	holdArg(s, 1, ask(api.OpGet, api.TText, step(3)), msg(slot(1, num(5))))
	holdArg(s, 1, e, msg(slot(1, num(5)), slot(15, str(""))))
	holdTold(t, s, 0, e, msg(slot(1, num(5)), slot(15, str(""))), api.Result{N: 5}, api.OK)
}

// P16.2: what is told is of the message as it is normal.
func TestEvalOfWhatIsNotNormal(t *testing.T) {
	s := read(t, small)
	x := msg(slot(4, sub(slot(17, num(0)))), slot(1, num(0)), pairs(5, strs("k", "a", "k"), []api.Val{sub(slot(1, num(1))), sub(), sub(slot(2, nums(1, 2)...))}), slot(2), slot(9, sub(slot(1, num(0)))))
	holdYes(t, s, x, true, "(eq a 0)", `(eq (. (m "k") a) 0)`, `(eq (count (. (m "k") r)) 2)`, "(eq (count m) 2)", "(has s)", "(any l (eq a 0))")
	holdErr(t, s, x, api.ErrEmpty, "(min r)")
	// The greatest sum counts of the last entry alone.
	x = msg(pairs(5, strs("k", "k"), []api.Val{sub(slot(2, nums(greatest, 1)...)), sub(slot(2, nums(1)...))}))
	holdText(t, s, `(sum (. (m "k") r))`, x, api.Result{N: 1}, api.OK)
}

// R3, R5: what comes in stays as it was, room behind its lists too, and the same is told again.
func TestEvalLeavesAll(t *testing.T) {
	s := read(t, small)
	x := some()
	for i := range x.F {
		v := x.F[i].V
		x.F[i].V = append(v, str("behind"))[:len(v)]
	}
	l := append(path(2), step(77))[:1]
	e := join(api.OpAnd, each(api.OpAny, join(api.OpLt, self(api.TNum), number(4)), l...), join(api.OpEq, ask(api.OpMax, api.TNum, l...), number(4)))
	was := show(e) + showMsg(x)
	for range 3 {
		if r, err := eval.Eval(s, 0, e, x); r != yes(true) || err != api.OK {
			t.Fatalf("%+v, %d", r, err)
		}
	}
	if show(e)+showMsg(x) != was || l[:2][1] != step(77) {
		t.Errorf("%s became %s", was, show(e)+showMsg(x))
	}
	for _, y := range x.F {
		if y.V[:len(y.V)+1][len(y.V)].S != "behind" {
			t.Errorf("behind %d stands %v", y.No, y.V[:len(y.V)+1][len(y.V)])
		}
	}
}
