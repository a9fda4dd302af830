package eval_test

import (
	"fmt"
	"strings"
	"testing"

	"truffle/api"
)

// troubled is a message of message A of the small schema: its r is fine, that of s has no sum, and that of d is empty.
func troubled() api.Msg {
	return msg(slot(2, nums(3, -1, 4)...), slot(4, sub(slot(2, nums(greatest, 1)...))), slot(19, sub()))
}

// empty and over are queries of TNum that tell an error of it.
const (
	empty = "(min (. d r))"
	over  = "(sum (. s r))"
)

// P16.2: an error of one of two is told; of two the greater number, ErrOver, in either order.
func TestErrorsOfTwo(t *testing.T) {
	s := read(t, small)
	x := troubled()
	for _, c := range []struct {
		l   []string
		err api.Errno
	}{
		{[]string{empty}, api.ErrEmpty},
		{[]string{"(max (. d r))"}, api.ErrEmpty},
		{[]string{over}, api.ErrOver},
	} {
		for _, src := range c.l {
			holdErr(t, s, x, c.err, src, "(eq "+src+" 3)", "(eq 3 "+src+")", "(lt "+src+" 3)", "(lt 3 "+src+")", "(gt "+src+" 3)", "(ge 3 "+src+")", "(ne "+src+" "+src+")", "(eq "+src+" "+src+")", "(not (eq "+src+" 1))")
		}
	}
	for _, op := range []string{"eq", "ne", "lt", "le", "gt", "ge"} {
		holdErr(t, s, x, api.ErrOver, "("+op+" "+empty+" "+over+")", "("+op+" "+over+" "+empty+")", "("+op+" "+over+" "+over+")")
		holdErr(t, s, x, api.ErrEmpty, "("+op+" "+empty+" "+empty+")")
	}
}

// P16.2: OpAnd and OpOr tell the greatest error of all, also behind what decides, and ahead of it.
func TestErrorsBehindWhatDecides(t *testing.T) {
	s := read(t, small)
	x := troubled()
	e, o := "(eq "+empty+" 1)", "(eq "+over+" 1)"
	for _, op := range []string{"and", "or"} {
		for _, is := range []string{"true", "false"} {
			holdErr(t, s, x, api.ErrEmpty, "("+op+" "+is+" "+e+")", "("+op+" "+e+" "+is+")", "("+op+" "+is+" "+is+" "+e+" "+is+")", "("+op+" "+e+" "+e+")")
			holdErr(t, s, x, api.ErrOver, "("+op+" "+is+" "+o+")", "("+op+" "+o+" "+is+")", "("+op+" "+is+" "+is+" "+o+" "+is+")",
				"("+op+" "+o+" "+is+" "+e+")", "("+op+" "+e+" "+is+" "+o+")", "("+op+" "+e+" "+o+" "+e+")", "("+op+" "+o+" "+e+" "+is+")")
			holdErr(t, s, x, api.ErrOver, "("+op+" "+is+" (not (or "+e+" (and true "+o+"))))")
		}
	}
	holdErr(t, s, x, api.ErrEmpty, "(or true (eq (min (. q r)) 1))")
	holdErr(t, s, x, api.ErrOver, "(eq (eq "+empty+" 1) (lt 1 "+over+"))", "(eq (and true "+o+") (or true "+e+"))")
	holdYes(t, s, x, true, "(or true (eq (sum (. q r)) 1))")
}

// P16.2: OpAny and OpAll tell the greatest error of all values, also behind one that decides, and ahead of it; of none there is no error.
func TestErrorsOfEach(t *testing.T) {
	s := read(t, small)
	fine, low := sub(slot(2, num(9))), sub(slot(2, num(1)))
	none, much := sub(), sub(slot(2, nums(greatest, greatest)...))
	reckon := map[string]string{"max": "(%s l (eq (max r) 9))", "sum": "(%s l (eq (sum r) 9))", "both": "(%s l (eq (max r) (sum r)))"}
	for _, op := range []string{"any", "all"} {
		told := func(what string, err api.Errno, l ...api.Val) {
			t.Helper()
			src := fmt.Sprintf(reckon[what], op)
			holdErr(t, s, msg(slot(9, l...)), err, src, "(not "+src+")", "(or true "+src+")", "(and false "+src+")", "(eq true "+src+")")
		}
		told("max", api.ErrEmpty, none)
		told("max", api.ErrEmpty, fine, none)
		told("max", api.ErrEmpty, none, fine)
		told("max", api.ErrEmpty, low, none)
		told("max", api.ErrEmpty, none, low)
		told("max", api.ErrEmpty, fine, low, none, low, fine)
		told("sum", api.ErrOver, much)
		told("sum", api.ErrOver, fine, much)
		told("sum", api.ErrOver, low, much)
		told("sum", api.ErrOver, much, fine, low)
		told("both", api.ErrOver, none, much)
		told("both", api.ErrOver, much, none)
		told("both", api.ErrOver, fine, none, much, none, low)
		told("both", api.ErrEmpty, fine, none, low)
	}
	holdYes(t, s, msg(slot(9, fine, low)), true, "(any l (eq (max r) 9))", "(all l (eq (max r) (sum r)))")
	holdYes(t, s, msg(), false, "(any l (eq (max r) 9))")
	holdYes(t, s, msg(), true, "(all l (eq (max r) 9))")
	// Elements have no errors of their own, but what is asked of them within messages may have.
	holdErr(t, s, msg(slot(9, sub(slot(9, fine, none)), sub(slot(9, much)))), api.ErrEmpty, "(any l (any l (eq (min r) 9)))")
	holdErr(t, s, msg(slot(9, sub(slot(9, fine, none)), sub(slot(9, much)))), api.ErrOver, "(any l (any l (eq (min r) (sum r))))", "(all l (all l (eq (min r) (sum r))))")
}

// P16.2, P16.3: what is not asked of anything has no error: what a path does not find, and what is within.
func TestErrorsOfWhatIsNotAsked(t *testing.T) {
	s := read(t, small)
	x := troubled()
	holdYes(t, s, x, true, "(all l (eq (min r) 1))", "(all (. s l) (eq (max r) 1))", "(not (any l (eq (min r) 1)))")
	holdErr(t, s, x, api.ErrEmpty, "(and (all l (eq (min r) 1)) (eq (min (. d r)) 1))")
	// A message that is not there has no numbers.
	holdErr(t, s, x, api.ErrEmpty, "(eq (max (. q r)) 0)", `(eq (max (. (m "k") r)) 0)`, "(eq (min (. q q q r)) 0)")
}

// P16.2: errors come up from 39 others, whatever these would tell.
func TestErrorsFromWithin(t *testing.T) {
	s := read(t, small)
	for _, op := range []string{"(not ", "(and false ", "(or true ", "(eq true "} {
		for _, c := range []struct {
			src string
			err api.Errno
		}{{"(eq " + empty + " 1)", api.ErrEmpty}, {"(eq " + over + " 1)", api.ErrOver}, {"(eq " + over + " " + empty + ")", api.ErrOver}} {
			holdErr(t, s, troubled(), c.err, strings.Repeat(op, 12)+c.src+strings.Repeat(")", 12))
			// A text has at most 16 lists within one another, a query 40 within one another.
			e := query(t, s, 0, c.src)
			for range 38 {
				e = join(api.OpOr, truth(1), e)
			}
			holdTold(t, s, 0, e, troubled(), api.Result{}, c.err)
		}
	}
}
