package eval_test

import (
	"testing"

	"truffle/api"
)

// P16.2: OpAny and OpAll of none, of one, and of more elements.
func TestAnyAndAllOfElements(t *testing.T) {
	s := read(t, small)
	of := func(any, all bool, l ...int64) {
		t.Helper()
		x := msg(slot(2, nums(l...)...))
		holdYes(t, s, x, any, "(any r (gt _ 3))")
		holdYes(t, s, x, all, "(all r (gt _ 3))")
		holdYes(t, s, x, !all, "(any r (le _ 3))")
		holdYes(t, s, x, !any, "(all r (not (gt _ 3)))")
	}
	of(false, true)
	of(false, false, 3)
	of(true, true, 4)
	of(true, false, 2, 4)
	of(true, false, 4, 2)
	of(true, true, 4, 5)
	of(false, false, 2, 3)
	of(true, false, 4, 2, 5)
	of(true, false, 2, 4, 2)
	of(true, true, 4, 4, 4)
	of(false, false, 0, 0, least)
	of(true, false, greatest, 3)
}

// P16.2: at elements of each kind, each one is told as itself.
func TestElementsOfAllKinds(t *testing.T) {
	s := whole()
	for kind, ty := range typeOf {
		no := repeated + kind
		l := values(kind)
		for i, v := range l {
			is := join(api.OpEq, self(ty), given(ty, v))
			holdTold(t, s, forms, each(api.OpAny, is, step(no)), msg(slot(no, l...)), yes(true), api.OK)
			holdTold(t, s, forms, each(api.OpAll, is, step(no)), msg(slot(no, l...)), yes(false), api.OK)
			holdTold(t, s, forms, each(api.OpAll, is, step(no)), msg(slot(no, v, v)), yes(true), api.OK)
			for j, other := range l {
				holdTold(t, s, forms, each(api.OpAny, is, step(no)), msg(slot(no, other)), yes(i == j), api.OK)
				if ty != api.TBool {
					hold(t, s, forms, each(api.OpAny, join(api.OpLt, self(ty), given(ty, v)), step(no)), msg(slot(no, other, l[0])))
					hold(t, s, forms, each(api.OpAll, join(api.OpLt, given(ty, v), self(ty)), step(no)), msg(slot(no, other, l[0])))
				}
			}
		}
		holdTold(t, s, forms, each(api.OpAll, join(api.OpEq, self(ty), self(ty)), step(no)), msg(slot(no, l...)), yes(true), api.OK)
	}
	holdTold(t, s, forms, each(api.OpAny, self(api.TBool), step(repeated+api.Flag)), msg(slot(repeated+api.Flag, nums(0, 1)...)), yes(true), api.OK)
	holdTold(t, s, forms, each(api.OpAll, self(api.TBool), step(repeated+api.Flag)), msg(slot(repeated+api.Flag, nums(0, 1)...)), yes(false), api.OK)
	holdTold(t, s, forms, each(api.OpAll, join(api.OpNot, self(api.TBool)), step(repeated+api.Flag)), msg(slot(repeated+api.Flag, nums(0, 0)...)), yes(true), api.OK)
}

// P16.2: at messages, each one is asked as a message, what it has not being as it is elsewhere.
func TestAnyAndAllOfMessages(t *testing.T) {
	s := read(t, small)
	holdYes(t, s, some(), true, "(any l (eq a 1))", "(any l (eq a 0))", "(all l (lt a 2))", "(any l (gt (count r) 0))", "(any l (eq (sum r) 9))", "(all l (not (has s)))", "(any g (eq c 4))", "(any g (eq (sum r) 11))", "(all g (not (has a)))", "(any l true)", "(all l true)",
		`(all l (eq t ""))`, "(any l (and (eq a 0) (eq (count r) 0)))", "(all (. q l) false)", "(all (. s l) false)")
	holdYes(t, s, some(), false, "(any l (eq a 7))", "(all l (eq a 0))", "(all l (eq a 1))", "(any l (has s))", `(any l (eq t "x"))`, "(any g (eq c 7))", "(any l false)", "(all l false)", "(any (. s l) true)", "(any (. q l) (has s))", `(any (. (m "z") l) true)`)
	x := msg(slot(1, num(5)), slot(9, sub()))
	holdYes(t, s, x, true, "(all l (eq a 0))", "(any l (eq (. s s s a) 0))", `(all l (eq (. (m "k") t) ""))`)
	holdYes(t, s, x, false, "(any l (eq a 5))", "(all l (has p))")
}

// P16.2: of none OpAny tells no, OpAll yes, whether it is the field that is not there, or a message on the way.
func TestAnyOfWhatIsNotThere(t *testing.T) {
	s := read(t, small)
	for _, x := range []api.Msg{{}, msg(slot(7, sub())), msg(slot(9)), msg(slot(4, sub(slot(2, num(1)))))} {
		holdYes(t, s, x, false, "(any (. q l) true)", "(any l true)", "(any r true)", "(any (. s s r) true)", `(any (. (m "k") r) true)`, "(any z _)", "(any (. d a l) (has s))")
		holdYes(t, s, x, true, "(all (. q l) false)", "(all l false)", "(all r false)", "(all (. s s r) false)", `(all (. (m "k") r) false)`, "(all z _)")
	}
}

// P16.2: OpAny and OpAll within one another, messages within messages, and elements within these.
func TestAnyAndAllWithin(t *testing.T) {
	s := read(t, small)
	row := func(l ...int64) api.Val { return sub(slot(2, nums(l...)...)) }
	x := msg(slot(9, sub(slot(9, row(1, 2), row(3))), sub(slot(9, row(), row(4, 5, 6))), sub(slot(2, nums(7)...))), slot(2, nums(100)...))
	holdYes(t, s, x, true, "(any l (any l (any r (eq _ 6))))", "(all l (all l (all r (lt _ 7))))", "(any l (all l (any r (lt _ 4))))", "(any l (any r (eq _ 7)))", "(any l (all l false))", "(any l (any l (all l false)))", "(any l (all l (all r (lt _ 4))))")
	holdYes(t, s, x, false, "(any l (any l (any r (eq _ 7))))", "(all l (any l (any r true)))", "(any l (any r (eq _ 100)))", "(all l (any l true))")
}
