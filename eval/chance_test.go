package eval_test

import (
	"math/rand/v2"
	"slices"
	"testing"

	"truffle/api"
	"truffle/eval"
	"truffle/typed"
	"truffle/typing"
)

// chance makes messages and queries of a schema by chance from a seed.
type chance struct {
	*rand.Rand
	s api.Schema
}

func newChance(s api.Schema, seed uint64) chance {
	return chance{rand.New(rand.NewPCG(16, seed)), s}
}

// one is one of some.
func one[T any](c chance, l ...T) T { return l[c.IntN(len(l))] }

// value is one of a kind; few of them differ, so that queries tell yes at times.
func (c chance) value(kind, ref, deep int) api.Val {
	if kind == api.Sub {
		return api.Val{M: []api.Msg{c.message(ref, deep-1)}}
	}
	return one(c, values(kind)...)
}

// message is one that may be, most often not normal.
func (c chance) message(m, deep int) api.Msg {
	var x api.Msg
	taken := map[int]bool{}
	for _, i := range c.Perm(len(c.s.M[m].F)) {
		f := c.s.M[m].F[i]
		if f.Kind == api.Sub && (deep == 0 || c.IntN(5) > 2) || c.IntN(3) == 0 || f.One > 0 && taken[f.One] {
			continue
		}
		taken[f.One] = true
		s := api.Slot{No: f.No}
		many := 1
		if f.Rep || f.Key != api.NoKey {
			many = c.IntN(4)
		}
		for range many {
			s.V = append(s.V, c.value(f.Kind, f.Ref, deep))
			if f.Key != api.NoKey {
				s.K = append(s.K, c.value(f.Key, 0, 0))
			}
		}
		x.F = append(x.F, s)
	}
	return x
}

// spot is where a query stands: at a message, or at elements of a kind.
type spot struct{ m, kind int }

// path is a path from a message, whose last field, with a key or none, is such as is told.
func (c chance) path(m int, is func(f api.FieldDef, keyed bool) bool) ([]api.Step, api.FieldDef, bool) {
	for range 40 {
		var l []api.Step
		at := m
		for range 1 + c.IntN(3) {
			if len(c.s.M[at].F) == 0 {
				break
			}
			f := one(c, c.s.M[at].F...)
			keyed := f.Key != api.NoKey && c.IntN(4) > 0
			x := step(f.No)
			if keyed {
				x = byVal(f.No, one(c, values(f.Key)...))
			}
			l = append(l, x)
			if is(f, keyed) && c.IntN(3) > 0 {
				return l, f, true
			}
			if f.Kind != api.Sub || f.Rep || f.Key != api.NoKey && !keyed {
				break
			}
			at = f.Ref
		}
	}
	return nil, api.FieldDef{}, false
}

// isOne tells whether a field, with a key or none, leads to one.
func isOne(f api.FieldDef, keyed bool) bool {
	return keyed || !f.Rep && f.Key == api.NoKey
}

// query is a query of a type at a place.
func (c chance) query(p spot, ty, deep int) api.Expr {
	if p.kind != api.Sub && typeOf[p.kind] == ty && c.IntN(2) == 0 {
		return self(ty)
	}
	if ty == api.TBool && deep > 0 && c.IntN(6) > 0 {
		return c.bigger(p, deep)
	}
	if p.kind == api.Sub && c.IntN(4) > 0 {
		if e, ok := c.asked(p, ty); ok {
			return e
		}
	}
	return given(ty, one(c, values(map[int]int{api.TNum: api.Int, api.TBool: api.Flag, api.TText: api.Text, api.TRaw: api.Raw}[ty])...))
}

// asked is a query of a path alone.
func (c chance) asked(p spot, ty int) (api.Expr, bool) {
	op := api.OpGet
	switch ty {
	case api.TNum:
		op = one(c, api.OpGet, api.OpCount, api.OpSum, api.OpMin, api.OpMax)
	case api.TBool:
		op = one(c, api.OpGet, api.OpHas, api.OpHas)
	}
	l, _, ok := c.path(p.m, func(f api.FieldDef, keyed bool) bool {
		t, has := typeOf[f.Kind]
		switch op {
		case api.OpGet:
			return isOne(f, keyed) && has && t == ty
		case api.OpHas:
			return isOne(f, keyed) && (keyed || !has || f.One > 0)
		case api.OpCount:
			return !isOne(f, keyed)
		}
		return f.Rep && has && t == api.TNum
	})
	return ask(op, ty, l...), ok
}

// bigger is a query of TBool that is of others.
func (c chance) bigger(p spot, deep int) api.Expr {
	op := one(c, api.OpEq, api.OpLt, api.OpNot, api.OpAnd, api.OpOr, api.OpAny, api.OpAll, api.OpAny, api.OpAll)
	switch op {
	case api.OpEq, api.OpLt:
		ty := one(c, api.TNum, api.TNum, api.TText, api.TRaw)
		if op == api.OpEq {
			ty = c.IntN(api.Types)
		}
		return join(op, c.query(p, ty, deep-1), c.query(p, ty, deep-1))
	case api.OpNot:
		return join(op, c.query(p, api.TBool, deep-1))
	case api.OpAnd, api.OpOr:
		var l []api.Expr
		for range 1 + c.IntN(3) {
			l = append(l, c.query(p, api.TBool, deep-1))
		}
		return join(op, l...)
	}
	if p.kind != api.Sub {
		return truth(1)
	}
	l, f, ok := c.path(p.m, func(f api.FieldDef, keyed bool) bool { return f.Rep })
	if !ok {
		return truth(0)
	}
	return each(op, c.query(spot{f.Ref, f.Kind}, api.TBool, deep-1), l...)
}

// P16.2, P16.3: queries made by chance, of messages made by chance, tell what the words ask.
func TestEvalByChance(t *testing.T) {
	errs, told := map[api.Errno]int{}, map[api.Result]int{}
	for seed, s := range []api.Schema{read(t, small), whole()} {
		c := newChance(s, uint64(seed))
		for range 600 {
			m := c.IntN(len(s.M))
			x := c.message(m, 2)
			for range 12 {
				e := c.query(spot{m, api.Sub}, c.IntN(api.Types), c.IntN(6))
				if !typing.May(s, m, e) || !typed.May(s, m, x) {
					t.Fatalf("%s is none, or %s", show(e), cut(showMsg(x)))
				}
				errs[hold(t, s, m, e, x)]++
				r, _ := wantEval(s, m, e, x)
				told[api.Result{T: r.T, N: min(max(r.N, -1), 1)}]++
			}
		}
	}
	if len(errs) != 3 || errs[api.ErrEmpty] < 200 || errs[api.ErrOver] < 10 || told[yes(true)] < 1000 || told[yes(false)] < 1000 || told[api.Result{T: api.TNum, N: -1}] < 100 {
		t.Errorf("errors: %v; told: %v", errs, told)
	}
}

// P16.1: paths made by chance find what the words ask in messages made by chance.
func TestWalkByChance(t *testing.T) {
	found := map[bool]int{}
	for seed, s := range []api.Schema{read(t, small), whole()} {
		c := newChance(s, uint64(10+seed))
		for range 1000 {
			m := c.IntN(len(s.M))
			x := c.message(m, 2)
			for range 8 {
				l, _, _ := c.path(m, func(api.FieldDef, bool) bool { return true })
				if c.IntN(20) == 0 && len(l) > 0 {
					l[c.IntN(len(l))] = api.Step{No: 1 + c.IntN(30), Map: c.IntN(2) > 0, N: int64(c.IntN(2)), S: one(c, "", "", "k")}
				}
				want, ok := wantWalk(s, m, x, l)
				if got, is := eval.Walk(s, m, x, l); is != ok || showMsg(msg(got)) != showMsg(msg(want)) {
					t.Fatalf("Walk(%d, %s, %s) is %s, %t", m, cut(showMsg(x)), showPath(l), cut(showMsg(msg(got))), is)
				}
				found[ok]++
			}
		}
	}
	if found[true] < 1000 || found[false] < 1000 {
		t.Errorf("%v", found)
	}
}

// P16.1, P16.2: messages and queries made by chance, one thing of which is changed, tell what the words ask: nothing, or ErrArg, or of what they have become.
func TestSpoiltByChance(t *testing.T) {
	s := read(t, small)
	c := newChance(s, 20)
	errs := map[api.Errno]int{}
	for range 4000 {
		m := c.IntN(len(s.M))
		x := c.message(m, 2)
		e := c.query(spot{m, api.Sub}, c.IntN(api.Types), c.IntN(4))
		if c.IntN(2) == 0 {
			c.spoilQuery(&e)
		} else {
			c.spoilMessage(&x)
		}
		errs[hold(t, s, m, e, x)]++
	}
	if errs[api.ErrArg] < 1000 || errs[api.OK] < 300 {
		t.Errorf("%v", errs)
	}
}

// spoilQuery changes one thing of a query, or of one in it.
func (c chance) spoilQuery(e *api.Expr) {
	for len(e.L) > 0 && c.IntN(2) == 0 {
		e.L = slices.Clone(e.L)
		e = &e.L[c.IntN(len(e.L))]
	}
	switch c.IntN(6) {
	case 0:
		e.Op = c.IntN(api.Ops+2) - 1
	case 1:
		e.T = c.IntN(api.Types+2) - 1
	case 2:
		e.N += int64(c.IntN(3) - 1)
	case 3:
		e.S += "s"
	case 4:
		e.P = append(slices.Clone(e.P), step(1+c.IntN(22)))
	default:
		e.L = append(slices.Clone(e.L), truth(1))
	}
}

// spoilMessage changes one thing of a message, or of one in it.
func (c chance) spoilMessage(x *api.Msg) {
	if len(x.F) == 0 {
		x.F = []api.Slot{{No: 1 + c.IntN(22)}}
		return
	}
	s := &x.F[c.IntN(len(x.F))]
	if len(s.V) == 0 || c.IntN(5) == 0 {
		s.No = 1 + c.IntN(22)
		return
	}
	v := &s.V[c.IntN(len(s.V))]
	if len(v.M) > 0 && c.IntN(4) > 0 {
		c.spoilMessage(&v.M[0])
		return
	}
	switch c.IntN(5) {
	case 0:
		v.N += int64(1 + c.IntN(3))
	case 1:
		v.S += "\xff"
	case 2:
		v.M = append(v.M, api.Msg{})
	case 3:
		s.V = append(s.V, *v)
	default:
		s.K = append(s.K, num(1))
	}
}
