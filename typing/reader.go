package typing

import (
	"slices"

	"truffle/api"
	"truffle/table"
)

// Names that are queries of themselves, or keys.
const (
	yes  = "true"
	no   = "false"
	self = "_"
)

// How many nodes a list has, by how many it has behind the one that it is begun by.
const (
	ofOne = 2
	ofTwo = 3
)

// reader makes queries at a place of nodes that may be.
type reader struct {
	place
	byFirst map[string]maker
}

// maker makes the query of a list that is begun by a name; with an error the place is where what is wrong begins.
type maker func(r reader, n api.Node) (api.Expr, int, api.Errno)

// makers are those of lists, by the names that these are begun by.
func makers() map[string]maker {
	return map[string]maker{
		"raw":   reader.raw,
		"has":   reader.has,
		"count": reader.count,
		"sum":   reader.sum,
		"min":   reader.least,
		"max":   reader.greatest,
		"any":   reader.ofAny,
		"all":   reader.ofAll,
		"eq":    reader.eq,
		"lt":    reader.lt,
		"not":   reader.not,
		"and":   reader.and,
		"or":    reader.or,
		"ne":    reader.ne,
		"le":    reader.le,
		"gt":    reader.gt,
		"ge":    reader.ge,
	}
}

// query is the query of a node.
func (r reader) query(n api.Node) (api.Expr, int, api.Errno) {
	switch n.Kind {
	case api.Num:
		return api.Expr{Op: api.OpNum, T: api.TNum, N: n.N}, 0, api.OK
	case api.Str:
		return api.Expr{Op: api.OpText, T: api.TText, S: n.Text}, 0, api.OK
	case api.Name:
		return r.name(n)
	case api.List:
		return r.list(n)
	}
	return wrong(n)
}

// typed is the query of a node, which must be of one of some types.
func (r reader) typed(n api.Node, types ...int) (api.Expr, int, api.Errno) {
	e, at, err := r.query(n)
	if err == api.OK && !slices.Contains(types, e.T) {
		return wrong(n)
	}
	return e, at, err
}

func (r reader) name(n api.Node) (api.Expr, int, api.Errno) {
	switch n.Text {
	case yes:
		return api.Expr{Op: api.OpBool, T: api.TBool, N: 1}, 0, api.OK
	case no:
		return api.Expr{Op: api.OpBool, T: api.TBool}, 0, api.OK
	case self:
		return r.element(n)
	}
	return r.get(n)
}

func (r reader) list(n api.Node) (api.Expr, int, api.Errno) {
	if len(n.L) == 0 {
		return wrong(n)
	}
	switch first := n.L[0]; first.Kind {
	case api.Sign:
		return r.get(n)
	case api.Name:
		if of, ok := r.byFirst[first.Text]; ok {
			return of(r, n)
		}
	}
	return wrong(n)
}

// element is the query of the element itself.
func (r reader) element(n api.Node) (api.Expr, int, api.Errno) {
	if !r.elements {
		return wrong(n)
	}
	return api.Expr{Op: api.OpSelf, T: r.t}, 0, api.OK
}

// get is the query of a path, for the value that it leads to.
func (r reader) get(n api.Node) (api.Expr, int, api.Errno) {
	e, _, at, err := r.ask(api.OpGet, n)
	return e, at, err
}

func (r reader) raw(n api.Node) (api.Expr, int, api.Errno) {
	if len(n.L) != ofOne || n.L[1].Kind != api.Str {
		return wrong(n)
	}
	return api.Expr{Op: api.OpRaw, T: api.TRaw, S: n.L[1].Text}, 0, api.OK
}

func (r reader) has(n api.Node) (api.Expr, int, api.Errno)      { return r.askOne(api.OpHas, n) }
func (r reader) count(n api.Node) (api.Expr, int, api.Errno)    { return r.askOne(api.OpCount, n) }
func (r reader) sum(n api.Node) (api.Expr, int, api.Errno)      { return r.askOne(api.OpSum, n) }
func (r reader) least(n api.Node) (api.Expr, int, api.Errno)    { return r.askOne(api.OpMin, n) }
func (r reader) greatest(n api.Node) (api.Expr, int, api.Errno) { return r.askOne(api.OpMax, n) }

func (r reader) ofAny(n api.Node) (api.Expr, int, api.Errno) { return r.askEach(api.OpAny, n) }
func (r reader) ofAll(n api.Node) (api.Expr, int, api.Errno) { return r.askEach(api.OpAll, n) }

func (r reader) and(n api.Node) (api.Expr, int, api.Errno) { return r.join(api.OpAnd, n) }
func (r reader) or(n api.Node) (api.Expr, int, api.Errno)  { return r.join(api.OpOr, n) }

func (r reader) not(n api.Node) (api.Expr, int, api.Errno) {
	if len(n.L) != ofOne {
		return wrong(n)
	}
	return r.join(api.OpNot, n)
}

func (r reader) eq(n api.Node) (api.Expr, int, api.Errno) {
	return r.compare(api.OpEq, n, api.TNum, api.TBool, api.TText, api.TRaw)
}

func (r reader) lt(n api.Node) (api.Expr, int, api.Errno) {
	return r.compare(api.OpLt, n, api.TNum, api.TText, api.TRaw)
}

// What gt and le tell is wrong in the order of the text, as lt does: only what is right is turned round.
func (r reader) gt(n api.Node) (api.Expr, int, api.Errno) {
	e, at, err := r.lt(n)
	slices.Reverse(e.L)
	return e, at, err
}

func (r reader) ne(n api.Node) (api.Expr, int, api.Errno) { return negate(r.eq(n)) }
func (r reader) le(n api.Node) (api.Expr, int, api.Errno) { return negate(r.gt(n)) }
func (r reader) ge(n api.Node) (api.Expr, int, api.Errno) { return negate(r.lt(n)) }

// askOne is the query of a list of a name and a path.
func (r reader) askOne(op int, n api.Node) (api.Expr, int, api.Errno) {
	if len(n.L) != ofOne {
		return wrong(n)
	}
	e, _, at, err := r.ask(op, n.L[1])
	return e, at, err
}

// askEach is the query of a list of a name, a path, and a query at what that leads to.
func (r reader) askEach(op int, n api.Node) (api.Expr, int, api.Errno) {
	if len(n.L) != ofTwo {
		return wrong(n)
	}
	e, f, at, err := r.ask(op, n.L[1])
	if err != api.OK {
		return api.Expr{}, at, err
	}
	r.place = r.inside(f)
	of, at, err := r.typed(n.L[2], api.TBool)
	if err != api.OK {
		return api.Expr{}, at, err
	}
	e.L = []api.Expr{of}
	return e, 0, api.OK
}

// compare is the query of a list of a name and two queries of one type, which must be one of some.
func (r reader) compare(op int, n api.Node, types ...int) (api.Expr, int, api.Errno) {
	if len(n.L) != ofTwo {
		return wrong(n)
	}
	a, at, err := r.typed(n.L[1], types...)
	if err != api.OK {
		return api.Expr{}, at, err
	}
	b, at, err := r.typed(n.L[2], a.T)
	if err != api.OK {
		return api.Expr{}, at, err
	}
	return api.Expr{Op: op, T: api.TBool, L: []api.Expr{a, b}}, 0, api.OK
}

// join is the query of a list of a name and queries, one at least, of TBool.
func (r reader) join(op int, n api.Node) (api.Expr, int, api.Errno) {
	if len(n.L) < ofOne {
		return wrong(n)
	}
	e := api.Expr{Op: op, T: api.TBool}
	for _, x := range n.L[1:] {
		of, at, err := r.typed(x, api.TBool)
		if err != api.OK {
			return api.Expr{}, at, err
		}
		e.L = append(e.L, of)
	}
	return e, 0, api.OK
}

// ask is the query of an Op of a path, and the last field of that.
func (r reader) ask(op int, n api.Node) (api.Expr, api.FieldDef, int, api.Errno) {
	l, to, at, err := r.path(n)
	if err != api.OK {
		return api.Expr{}, api.FieldDef{}, at, err
	}
	t, ok := to.asked(op)
	if !ok {
		return api.Expr{}, api.FieldDef{}, n.At, api.ErrType
	}
	return api.Expr{Op: op, T: t, P: l}, to.f, 0, api.OK
}

// path is the path that a node is, and its end.
func (r reader) path(n api.Node) ([]api.Step, end, int, api.Errno) {
	nodes, ok := steps(n)
	if r.elements || !ok {
		return nil, end{}, n.At, api.ErrType
	}
	var l []api.Step
	var to end
	m := r.m
	for i, x := range nodes {
		step, f, at, err := stepOf(r.s, m, x)
		if err != api.OK {
			return nil, end{}, at, err
		}
		l, to = append(l, step), end{f, step.Map}
		if i < len(nodes)-1 && !to.goesOn() {
			return nil, end{}, x.At, api.ErrType
		}
		m = f.Ref
	}
	return l, to, 0, api.OK
}

// steps are the nodes of a path's steps, if it may be one by its form.
func steps(n api.Node) ([]api.Node, bool) {
	if n.Kind == api.Name {
		return []api.Node{n}, true
	}
	if len(n.L) < 2 || len(n.L)-1 > api.MaxNest || n.L[0].Kind != api.Sign {
		return nil, false
	}
	return n.L[1:], true
}

// stepOf is the step from message m that a node is, and its field.
func stepOf(s api.Schema, m int, n api.Node) (api.Step, api.FieldDef, int, api.Errno) {
	name, keyed := n, n.Kind == api.List
	if keyed && len(n.L) == 2 {
		name = n.L[0]
	}
	if name.Kind != api.Name {
		return api.Step{}, api.FieldDef{}, n.At, api.ErrType
	}
	f, ok := table.Find(s, m, name.Text)
	if !ok {
		return api.Step{}, api.FieldDef{}, name.At, api.ErrNone
	}
	if !keyed {
		return api.Step{No: f.No}, f, 0, api.OK
	}
	x, ok := keyStep(f, n.L[1])
	if !ok {
		return api.Step{}, api.FieldDef{}, n.At, api.ErrType
	}
	return x, f, 0, api.OK
}

// keyStep is the step of a field with a key, if the node is one of its keys.
func keyStep(f api.FieldDef, n api.Node) (api.Step, bool) {
	x := api.Step{No: f.No, Map: true}
	switch n.Kind {
	case api.Num:
		x.N = n.N
		return x, f.Key != api.Flag && fits(f.Key, n.N)
	case api.Str:
		x.S = n.Text
		return x, f.Key == api.Text
	case api.Name:
		if n.Text == yes {
			x.N = 1
		}
		return x, f.Key == api.Flag && (n.Text == yes || n.Text == no)
	}
	return api.Step{}, false
}

// negate is a query that it is not so, of one that may be wrong.
func negate(e api.Expr, at int, err api.Errno) (api.Expr, int, api.Errno) {
	if err != api.OK {
		return api.Expr{}, at, err
	}
	return api.Expr{Op: api.OpNot, T: api.TBool, L: []api.Expr{e}}, 0, api.OK
}

// wrong tells that a node is of another type.
func wrong(n api.Node) (api.Expr, int, api.Errno) {
	return api.Expr{}, n.At, api.ErrType
}
