package typing_test

import (
	"fmt"
	"reflect"
	"slices"
	"strconv"
	"strings"
	"testing"
	"unsafe"

	"truffle/api"
	"truffle/conv"
	"truffle/sexp"
	"truffle/table"
	"truffle/typing"
)

// The messages of the schema of all forms.
const (
	forms = iota // each kind: alone, repeated, and in a oneof
	maps         // each key's kind, and each kind of values
	few          // names that mean something elsewhere, and the last number
	none         // no fields
	msgs
)

// Where the fields of message forms begin, by their kinds.
const (
	alone    = 1
	repeated = 11
	inOne    = 21
)

// Where the fields of message maps begin, by the place of the key's kind, and by the kinds of their values.
const (
	byKey     = 1
	textToAny = 11
	numToAny  = 21
)

// kindNames are the names of kinds, typeNames those of types, and opNames those of Ops.
var (
	kindNames = strings.Fields("int sint uint flag fix4 fix8 enum text raw sub")
	typeNames = strings.Fields("num bool text raw")
	opNames   = strings.Fields("num bool text raw self get has count sum min max eq lt not and or any all")
)

// keyKinds are the kinds that keys may have.
var keyKinds = []int{api.Int, api.Sint, api.Uint, api.Flag, api.Fix4, api.Fix8, api.Text}

// typeOf are the types of the kinds that have one.
var typeOf = map[int]int{
	api.Int: api.TNum, api.Sint: api.TNum, api.Uint: api.TNum, api.Flag: api.TBool, api.Fix4: api.TNum,
	api.Fix8: api.TNum, api.Enum: api.TNum, api.Text: api.TText, api.Raw: api.TRaw,
}

// refOf is what a field of a kind refers to.
func refOf(kind, sub int) int {
	switch kind {
	case api.Sub:
		return sub
	case api.Enum:
		return 1
	}
	return 0
}

// whole is a schema of all forms of fields, in memory of its own. Of message forms, sub leads to maps, r_sub to few, and o_sub back; of maps, k_ to forms, t_sub back, and s_sub to few; of few, eq leads back.
func whole() api.Schema {
	s := api.Schema{
		M: []api.MsgDef{forms: {Name: "Forms"}, maps: {Name: "Maps"}, few: {Name: "Few"}, none: {Name: "None"}},
		E: []api.EnumDef{{Name: "E", V: []string{"Z"}, N: []int64{0}}, {Name: "F", V: []string{"Z", "Y"}, N: []int64{0, 7}}},
	}
	add := func(m int, name string, f api.FieldDef) {
		f.Name = name
		s.M[m].F = append(s.M[m].F, f)
	}
	for kind, name := range kindNames {
		add(forms, name, api.FieldDef{No: alone + kind, Kind: kind, Ref: refOf(kind, maps), Key: api.NoKey})
	}
	for kind, name := range kindNames {
		add(forms, "r_"+name, api.FieldDef{No: repeated + kind, Kind: kind, Ref: refOf(kind, few), Rep: true, Key: api.NoKey})
	}
	for kind, name := range kindNames {
		add(forms, "o_"+name, api.FieldDef{No: inOne + kind, Kind: kind, Ref: refOf(kind, forms), Key: api.NoKey, One: 1 + kind%2*29})
	}
	for i, key := range keyKinds {
		add(maps, "k_"+kindNames[key], api.FieldDef{No: byKey + i, Kind: api.Sub, Ref: forms, Key: key})
	}
	for kind, name := range kindNames {
		add(maps, "t_"+name, api.FieldDef{No: textToAny + kind, Kind: kind, Ref: refOf(kind, maps), Key: api.Text})
	}
	for kind, name := range kindNames {
		add(maps, "s_"+name, api.FieldDef{No: numToAny + kind, Kind: kind, Ref: refOf(kind, few), Key: api.Sint})
	}
	add(few, "true", api.FieldDef{No: 1, Kind: api.Int, Key: api.NoKey})
	add(few, "false", api.FieldDef{No: 2, Kind: api.Flag, Rep: true, Key: api.NoKey})
	add(few, "_", api.FieldDef{No: 3, Kind: api.Text, Key: api.NoKey, One: 1})
	add(few, "eq", api.FieldDef{No: 4, Kind: api.Sub, Ref: few, Key: api.NoKey})
	add(few, "raw", api.FieldDef{No: 5, Kind: api.Raw, Key: api.Flag})
	add(few, "last", api.FieldDef{No: api.MaxNo, Kind: api.Text, Key: api.NoKey})
	return s
}

// small is a schema with fields of most forms, of message A.
const small = `
message A {
  int64 a = 1; repeated sint64 r = 2; string t = 3; A s = 4; map<string, A> m = 5;
  oneof o { bool p = 6; A q = 7; string w = 8; }
  repeated A l = 9; map<bool, bytes> k = 10; repeated string u = 11; repeated bool z = 12; E e = 13; bytes y = 15;
  repeated bytes v = 16; bool b = 17; map<uint32, int64> n = 18; B d = 19; repeated B g = 20; map<sint64, B> h = 21;
}
message B { int64 c = 1; repeated int64 r = 2; A a = 3; bool b = 4; }
enum E { Z = 0; Y = 5; }`

// read is the schema of a text.
func read(t *testing.T, s string) api.Schema {
	t.Helper()
	schema, at, err := table.Read(s)
	if err != api.OK {
		t.Fatalf("%d at %d of %s", err, at, s)
	}
	return schema
}

// wrongSchemas are some that may not be, each for one reason.
func wrongSchemas() []api.Schema {
	wrong := []api.Schema{{}, {M: []api.MsgDef{}}, {E: whole().E}, {M: make([]api.MsgDef, 2)}}
	for _, do := range []func(s *api.Schema){
		func(s *api.Schema) { s.M[none].Name = "Few" },
		func(s *api.Schema) { s.M[none].Name = "int64" },
		func(s *api.Schema) { s.M[forms].F[1].No = 1 },
		func(s *api.Schema) { s.M[few].F[5].No++ },
		func(s *api.Schema) { s.M[few].F[5].Name = "eq" },
		func(s *api.Schema) { s.M[forms].F[9].Ref = msgs },
		func(s *api.Schema) { s.M[forms].F[0].Ref = 1 },
		func(s *api.Schema) { s.M[forms].F[0].Kind = api.Kinds },
		func(s *api.Schema) { s.M[maps].F[0].Key = api.Raw },
		func(s *api.Schema) { s.M[maps].F[0].Rep = true },
		func(s *api.Schema) { s.M[maps].F[0].One = 1 },
		func(s *api.Schema) { s.E[1].N[0] = 1 },
		func(s *api.Schema) { s.E = make([]api.EnumDef, 21) },
	} {
		s := whole()
		do(&s)
		wrong = append(wrong, s)
	}
	return wrong
}

// noMessages are places at which that schema has no message.
var noMessages = []int{-1, -2, msgs, msgs + 1, 20, 1 << 40, -1 << 63}

// step is one without a key, byNum one with a key that counts, and byText one with a text.
func step(no int) api.Step             { return api.Step{No: no} }
func byNum(no int, n int64) api.Step   { return api.Step{No: no, Map: true, N: n} }
func byText(no int, s string) api.Step { return api.Step{No: no, Map: true, S: s} }

// path is one of steps without keys.
func path(nos ...int) []api.Step {
	var l []api.Step
	for _, no := range nos {
		l = append(l, step(no))
	}
	return l
}

// num, truth, text, raw and self are queries that are values.
func num(n int64) api.Expr   { return api.Expr{Op: api.OpNum, T: api.TNum, N: n} }
func truth(n int64) api.Expr { return api.Expr{Op: api.OpBool, T: api.TBool, N: n} }
func text(s string) api.Expr { return api.Expr{Op: api.OpText, T: api.TText, S: s} }
func raw(s string) api.Expr  { return api.Expr{Op: api.OpRaw, T: api.TRaw, S: s} }
func self(t int) api.Expr    { return api.Expr{Op: api.OpSelf, T: t} }

// ask is a query of a path, each one of what a path leads to, and join one of others.
func ask(op, t int, p ...api.Step) api.Expr { return api.Expr{Op: op, T: t, P: p} }
func each(op int, of api.Expr, p ...api.Step) api.Expr {
	return api.Expr{Op: op, T: api.TBool, P: p, L: []api.Expr{of}}
}
func join(op int, l ...api.Expr) api.Expr { return api.Expr{Op: op, T: api.TBool, L: l} }

// get is a query of a value, by its type and path.
func get(t int, nos ...int) api.Expr { return ask(api.OpGet, t, path(nos...)...) }

// chain is a query within so many others, alone in each.
func chain(many int, e api.Expr) api.Expr {
	for range many {
		e = join(api.OpNot, e)
	}
	return e
}

// own is a query in memory of its own, whose lists without elements are nil.
func own(e api.Expr) api.Expr {
	out := api.Expr{Op: e.Op, T: e.T, P: append([]api.Step(nil), e.P...), N: e.N, S: strings.Clone(e.S)}
	for _, x := range e.L {
		out.L = append(out.L, own(x))
	}
	return out
}

// alike tells whether two queries are the same; lists without elements may be nil.
func alike(a, b api.Expr) bool {
	return reflect.DeepEqual(own(a), own(b))
}

// ownNode is a node in memory of its own, whose lists without elements are nil.
func ownNode(n api.Node) api.Node {
	out := api.Node{Kind: n.Kind, Text: strings.Clone(n.Text), N: n.N, At: n.At}
	for _, x := range n.L {
		out.L = append(out.L, ownNode(x))
	}
	return out
}

// spot is a place: a message, or, if message is not set, elements of a kind.
type spot struct {
	s       api.Schema
	message bool
	m, kind int
}

// atMessage is a message as a place.
func atMessage(s api.Schema, m int) spot { return spot{s: s, message: true, m: m} }

// within is the place at what a field that is repeated has.
func (p spot) within(f api.FieldDef) spot {
	if f.Kind == api.Sub {
		return atMessage(p.s, f.Ref)
	}
	return spot{s: p.s, kind: f.Kind}
}

// field is the field of a message of which something is so.
func field(s api.Schema, m int, is func(f api.FieldDef) bool) (api.FieldDef, bool) {
	for _, f := range s.M[m].F {
		if is(f) {
			return f, true
		}
	}
	return api.FieldDef{}, false
}

// named is the field of a message that has a name, which there is.
func named(t *testing.T, s api.Schema, m int, name string) api.FieldDef {
	t.Helper()
	f, ok := field(s, m, func(f api.FieldDef) bool { return f.Name == name })
	if !ok {
		t.Fatalf("no field %s", name)
	}
	return f
}

// wantStep tells whether the chapter allows a step of a field.
func wantStep(f api.FieldDef, x api.Step) bool {
	plain := api.Step{No: f.No}
	switch {
	case x == plain:
		return true
	case f.Key == api.NoKey:
		return false
	case f.Key == api.Text:
		return x == byText(f.No, x.S)
	}
	return x == byNum(f.No, x.N) && conv.Fits(f.Key, x.N)
}

// wantOne tells whether a field, with a key or none, leads to one.
func wantOne(f api.FieldDef, keyed bool) bool {
	many := f.Rep || f.Key != api.NoKey
	return !many || keyed
}

// wantEnd is the last field of a path from a message, if it is one.
func wantEnd(s api.Schema, m int, l []api.Step) (api.FieldDef, bool) {
	if len(l) < 1 || len(l) > 16 || m < 0 || m >= len(s.M) {
		return api.FieldDef{}, false
	}
	f, ok := field(s, m, func(f api.FieldDef) bool { return f.No == l[0].No })
	if !ok || !wantStep(f, l[0]) {
		return api.FieldDef{}, false
	}
	if len(l) == 1 {
		return f, true
	}
	if f.Kind != api.Sub || !wantOne(f, l[0].Map) {
		return api.FieldDef{}, false
	}
	return wantEnd(s, f.Ref, l[1:])
}

// wantAsked are the Ops that may ask a path that ends with a field, with a key or none, and their types.
func wantAsked(f api.FieldDef, keyed bool) map[int]int {
	t, hasType := typeOf[f.Kind]
	out := map[int]int{}
	if wantOne(f, keyed) {
		if hasType {
			out[api.OpGet] = t
		}
		if keyed || !hasType || f.One != 0 {
			out[api.OpHas] = api.TBool
		}
		return out
	}
	out[api.OpCount] = api.TNum
	if !f.Rep {
		return out
	}
	out[api.OpAny], out[api.OpAll] = api.TBool, api.TBool
	if hasType && t == api.TNum {
		out[api.OpSum], out[api.OpMin], out[api.OpMax] = t, t, t
	}
	return out
}

// bare is a query without what those of its Op have not.
func bare(e api.Expr) api.Expr {
	out := api.Expr{Op: e.Op, T: e.T}
	switch e.Op {
	case api.OpNum, api.OpBool:
		out.N = e.N
	case api.OpText, api.OpRaw:
		out.S = e.S
	case api.OpGet, api.OpHas, api.OpCount, api.OpSum, api.OpMin, api.OpMax:
		out.P = e.P
	case api.OpAny, api.OpAll:
		out.P, out.L = e.P, e.L
	case api.OpEq, api.OpLt, api.OpNot, api.OpAnd, api.OpOr:
		out.L = e.L
	}
	return out
}

// wantTree is how many queries stand within one another.
func wantTree(e api.Expr) int {
	deep := 0
	for _, x := range e.L {
		deep = max(deep, wantTree(x))
	}
	return 1 + deep
}

// wantQuery tells whether the chapter allows a query at a place, but for how many stand within one another.
func wantQuery(p spot, e api.Expr) bool {
	if !alike(e, bare(e)) {
		return false
	}
	types := make([]int, 0, len(e.L))
	for _, x := range e.L {
		types = append(types, x.T)
	}
	within := p
	switch e.Op {
	case api.OpNum, api.OpText, api.OpRaw:
		return e.T == map[int]int{api.OpNum: api.TNum, api.OpText: api.TText, api.OpRaw: api.TRaw}[e.Op]
	case api.OpBool:
		return e.T == api.TBool && (e.N == 0 || e.N == 1)
	case api.OpSelf:
		return !p.message && e.T == typeOf[p.kind]
	case api.OpEq, api.OpLt:
		if len(types) != 2 || types[0] != types[1] || e.Op == api.OpLt && types[0] == api.TBool || e.T != api.TBool {
			return false
		}
	case api.OpNot, api.OpAnd, api.OpOr:
		many := len(types)
		if e.Op == api.OpNot && many != 1 || many < 1 || e.T != api.TBool || !allAre(types, api.TBool) {
			return false
		}
	default:
		if !p.message {
			return false
		}
		f, ok := wantEnd(p.s, p.m, e.P)
		if !ok {
			return false
		}
		want, ok := wantAsked(f, e.P[len(e.P)-1].Map)[e.Op]
		if !ok || want != e.T {
			return false
		}
		if each := e.Op == api.OpAny || e.Op == api.OpAll; each && (len(types) != 1 || types[0] != api.TBool) {
			return false
		}
		within = p.within(f)
	}
	return !slices.ContainsFunc(e.L, func(x api.Expr) bool { return !wantQuery(within, x) })
}

// allAre tells whether all of some numbers are this one.
func allAre(l []int, want int) bool {
	return !slices.ContainsFunc(l, func(n int) bool { return n != want })
}

// wantMay is what P15.1 asks of May, of a schema that may be, and has the message.
func wantMay(s api.Schema, m int, e api.Expr) bool {
	return wantTree(e) <= 40 && wantQuery(atMessage(s, m), e)
}

// fault is what is wrong with a node, and where it begins.
type fault struct {
	at  int
	err api.Errno
}

// fine is no fault.
var fine = fault{}

// shapes are what lists have behind their name: S a Str, P a path, B a query of TBool, Q one of any type, L one of no TBool; of two of Q or L the second one is of the type of the first one. And the Ops of those whose queries are of an Op alone.
var shapes = map[string]struct {
	shape string
	op    int
}{
	"raw": {"S", api.OpRaw},
	"has": {"P", api.OpHas}, "count": {"P", api.OpCount}, "sum": {"P", api.OpSum}, "min": {"P", api.OpMin}, "max": {"P", api.OpMax},
	"any": {"PB", api.OpAny}, "all": {"PB", api.OpAll},
	"eq": {"QQ", api.OpEq}, "ne": {"QQ", api.OpEq},
	"lt": {"LL", api.OpLt}, "le": {"LL", api.OpLt}, "gt": {"LL", api.OpLt}, "ge": {"LL", api.OpLt},
	"not": {"B", api.OpNot}, "and": {"B+", api.OpAnd}, "or": {"B+", api.OpOr},
}

// wantOf is what P15.2 asks of Of at a place, of a node that may be: the query, or the first fault.
func wantOf(p spot, n api.Node) (api.Expr, fault) {
	there := fault{n.At, api.ErrType}
	switch {
	case n.Kind == api.Num:
		return num(n.N), fine
	case n.Kind == api.Str:
		return text(n.Text), fine
	case n.Kind == api.Name && n.Text == "true":
		return truth(1), fine
	case n.Kind == api.Name && n.Text == "false":
		return truth(0), fine
	case n.Kind == api.Name && n.Text == "_":
		if p.message {
			return api.Expr{}, there
		}
		return self(typeOf[p.kind]), fine
	case n.Kind == api.Name, n.Kind == api.List && len(n.L) > 0 && n.L[0].Kind == api.Sign:
		e, _, wrong := wantAsk(p, api.OpGet, n)
		return e, wrong
	case n.Kind != api.List, len(n.L) == 0, n.L[0].Kind != api.Name:
		return api.Expr{}, there
	}
	return wantList(p, n)
}

// wantList is that of a list that begins by a Name.
func wantList(p spot, n api.Node) (api.Expr, fault) {
	there := fault{n.At, api.ErrType}
	name, l := n.L[0].Text, n.L[1:]
	how, ok := shapes[name]
	if how.shape == "B+" {
		how.shape = strings.Repeat("B", max(1, len(l)))
	}
	if !ok || len(l) != len(how.shape) {
		return api.Expr{}, there
	}
	if how.shape == "S" {
		if l[0].Kind != api.Str {
			return api.Expr{}, there
		}
		return raw(l[0].Text), fine
	}
	e := join(how.op)
	for i, x := range l {
		if how.shape[i] == 'P' {
			asked, f, wrong := wantAsk(p, how.op, x)
			if wrong != fine {
				return api.Expr{}, wrong
			}
			e, p = asked, p.within(f)
			continue
		}
		q, wrong := wantOf(p, x)
		if wrong != fine {
			return api.Expr{}, wrong
		}
		must := how.shape[i] != 'B' || q.T == api.TBool
		must = must && (how.shape[i] != 'L' || q.T != api.TBool)
		must = must && (how.shape[i] == 'B' || i == 0 || q.T == e.L[0].T)
		if !must {
			return api.Expr{}, fault{x.At, api.ErrType}
		}
		e.L = append(e.L, q)
	}
	if name == "gt" || name == "le" {
		e.L = []api.Expr{e.L[1], e.L[0]}
	}
	if name == "ne" || name == "le" || name == "ge" {
		e = join(api.OpNot, e)
	}
	return e, fine
}

// wantAsk is a query of a path, and its last field.
func wantAsk(p spot, op int, n api.Node) (api.Expr, api.FieldDef, fault) {
	there := fault{n.At, api.ErrType}
	nodes := []api.Node{n}
	if n.Kind == api.List && len(n.L) > 0 && n.L[0].Kind == api.Sign {
		nodes = n.L[1:]
	} else if n.Kind != api.Name {
		return api.Expr{}, api.FieldDef{}, there
	}
	if !p.message || len(nodes) < 1 || len(nodes) > 16 {
		return api.Expr{}, api.FieldDef{}, there
	}
	var l []api.Step
	var f api.FieldDef
	for i, x := range nodes {
		if i > 0 {
			if f.Kind != api.Sub || !wantOne(f, l[i-1].Map) {
				return api.Expr{}, api.FieldDef{}, fault{nodes[i-1].At, api.ErrType}
			}
			p.m = f.Ref
		}
		var next api.Step
		var wrong fault
		next, f, wrong = wantRead(p, x)
		if wrong != fine {
			return api.Expr{}, api.FieldDef{}, wrong
		}
		l = append(l, next)
	}
	t, ok := wantAsked(f, l[len(l)-1].Map)[op]
	if !ok {
		return api.Expr{}, api.FieldDef{}, there
	}
	return ask(op, t, l...), f, fine
}

// wantRead is a step that a node is, and its field.
func wantRead(p spot, n api.Node) (api.Step, api.FieldDef, fault) {
	there := fault{n.At, api.ErrType}
	name, key := n, []api.Node(nil)
	if n.Kind == api.List {
		if len(n.L) != 2 {
			return api.Step{}, api.FieldDef{}, there
		}
		name, key = n.L[0], n.L[1:]
	}
	if name.Kind != api.Name {
		return api.Step{}, api.FieldDef{}, there
	}
	f, ok := field(p.s, p.m, func(f api.FieldDef) bool { return f.Name == name.Text })
	if !ok {
		return api.Step{}, api.FieldDef{}, fault{name.At, api.ErrNone}
	}
	if len(key) == 0 {
		return step(f.No), f, fine
	}
	kind, word := key[0].Kind, key[0].Text
	switch {
	case kind == api.Num && f.Key != api.Flag && f.Key != api.Text && f.Key != api.NoKey && conv.Fits(f.Key, key[0].N):
		return byNum(f.No, key[0].N), f, fine
	case kind == api.Name && f.Key == api.Flag && word == "true":
		return byNum(f.No, 1), f, fine
	case kind == api.Name && f.Key == api.Flag && word == "false":
		return byNum(f.No, 0), f, fine
	case kind == api.Str && f.Key == api.Text:
		return byText(f.No, word), f, fine
	}
	return api.Step{}, api.FieldDef{}, there
}

// holdPath holds Path against what P15.1 asks, and against one answer.
func holdPath(t *testing.T, s api.Schema, m int, l []api.Step, want bool) {
	t.Helper()
	wantField, ok := wantEnd(s, m, l)
	if ok != want {
		t.Fatalf("the words tell %t of %v from %d", ok, l, m)
	}
	wantRef := 0
	if wantField.Kind == api.Sub {
		wantRef = wantField.Ref
	}
	before := slices.Clone(l)
	f, ref, ok := typing.Path(s, m, l)
	if f != wantField || ref != wantRef || ok != want {
		t.Fatalf("Path(%d, %v) is %+v, %d, %t, not %+v, %d, %t", m, l, f, ref, ok, wantField, wantRef, want)
	}
	if !slices.Equal(l, before) {
		t.Fatalf("%v became %v", before, l)
	}
}

// holdMay holds May against what P15.1 asks, and against one answer; a query stays as it was (R3).
func holdMay(t *testing.T, s api.Schema, m int, e api.Expr, want bool) {
	t.Helper()
	before := own(e)
	if words := wantMay(s, m, e); words != want {
		t.Fatalf("the words tell %t of %s at %d", words, show(e), m)
	}
	if typing.May(s, m, e) != want {
		t.Fatalf("May(%d, %s) is %t", m, show(e), !want)
	}
	if !alike(e, before) {
		t.Fatalf("%s became %s", show(before), show(e))
	}
}

// holdWords holds May against what P15.1 asks, and tells that.
func holdWords(t *testing.T, s api.Schema, m int, e api.Expr) bool {
	t.Helper()
	want := wantMay(s, m, e)
	holdMay(t, s, m, e, want)
	return want
}

// holdOf holds what Of tells of a node that may be against what P15.2 asks, and tells the fault. What is told is a query at the message (P15.4), and a node stays as it was (R3).
func holdOf(t *testing.T, s api.Schema, m int, n api.Node) fault {
	t.Helper()
	before := ownNode(n)
	want, wrong := wantOf(atMessage(s, m), n)
	e, at, err := typing.Of(s, m, n)
	if (fault{at, err}) != wrong || !alike(e, want) {
		t.Fatalf("Of(%d, %s) is %s, %d, %d, not %s, %d, %d", m, sexp.Print(n), show(e), at, err, show(want), wrong.at, wrong.err)
	}
	if err == api.OK && (!typing.May(s, m, e) || !wantMay(s, m, e)) {
		t.Fatalf("Of(%d, %s) is %s, which is no query there", m, sexp.Print(n), show(e))
	}
	if !reflect.DeepEqual(ownNode(n), before) {
		t.Fatalf("%+v became %+v", before, n)
	}
	return wrong
}

// hold holds what Read and Of tell of a text that is a query against this.
func hold(t *testing.T, s api.Schema, m int, src string, want api.Expr) {
	t.Helper()
	n := parsed(t, src)
	if e, at, err := typing.Read(s, m, src); err != api.OK || at != 0 || !alike(e, want) {
		t.Fatalf("Read(%d, %s) is %s, %d, %d, not %s", m, src, show(e), at, err, show(want))
	}
	if wrong := holdOf(t, s, m, n); wrong != fine {
		t.Fatalf("the words tell %d, %d of %s", wrong.at, wrong.err, src)
	}
	if e, _, _ := typing.Of(s, m, n); !alike(e, want) {
		t.Fatalf("Of(%d, %s) is %s, not %s", m, src, show(e), show(want))
	}
	holdMay(t, s, m, want, true)
}

// holdFine holds a text, which is a query, against what P15.2 asks.
func holdFine(t *testing.T, s api.Schema, m int, src string) {
	t.Helper()
	if wrong := holdOf(t, s, m, parsed(t, src)); wrong != fine {
		t.Fatalf("Of(%d, %s) is %d at %d", m, src, wrong.err, wrong.at)
	}
}

// holdWrong holds what Read and Of tell of another text against its error, its place, and nothing else.
func holdWrong(t *testing.T, s api.Schema, m int, src string, want int, wantErr api.Errno) {
	t.Helper()
	if e, at, err := typing.Read(s, m, src); err != wantErr || at != want || !alike(e, api.Expr{}) {
		t.Fatalf("Read(%d, %s) is %s, %d, %d, not %d, %d", m, src, show(e), at, err, want, wantErr)
	}
	if wrong := holdOf(t, s, m, parsed(t, src)); wrong != (fault{want, wantErr}) {
		t.Fatalf("the words tell %d, %d of %s", wrong.at, wrong.err, src)
	}
}

// holdMark holds a text that is wrong, of that error, where a `^` stands, which is left away.
func holdMark(t *testing.T, s api.Schema, m int, src string, err api.Errno) {
	t.Helper()
	ahead, behind, ok := strings.Cut(src, "^")
	if !ok {
		t.Fatalf("no mark in %s", src)
	}
	holdWrong(t, s, m, ahead+behind, len(ahead), err)
}

// parsed is the node of a text.
func parsed(t *testing.T, src string) api.Node {
	t.Helper()
	n, at, err := sexp.Parse(src)
	if err != api.OK {
		t.Fatalf("%d at %d of %s", err, at, src)
	}
	return n
}

// show is a query as a short text.
func show(e api.Expr) string {
	return cut(showAll(e, 0))
}

func showAll(e api.Expr, deep int) string {
	if deep > 50 {
		return ".."
	}
	out := nameOf(opNames, e.Op) + ":" + nameOf(typeNames, e.T)
	for _, x := range e.P {
		out += fmt.Sprintf("/%d", x.No)
		if x.Map || x.N != 0 || x.S != "" {
			out += fmt.Sprintf("[%t %d %q]", x.Map, x.N, x.S)
		}
	}
	if e.N != 0 {
		out += fmt.Sprintf(" %d", e.N)
	}
	if e.S != "" {
		out += fmt.Sprintf(" %q", e.S)
	}
	if len(e.L) == 0 {
		return out
	}
	var l []string
	for _, x := range e.L {
		l = append(l, showAll(x, deep+1))
	}
	return out + "(" + strings.Join(l, ", ") + ")"
}

// nameOf is a name by its place, or that.
func nameOf(names []string, i int) string {
	if i < 0 || i >= len(names) {
		return strconv.Itoa(i)
	}
	return names[i]
}

// cut is the beginning of a text that is long.
func cut(s string) string {
	if len(s) > 600 {
		return s[:600] + ".."
	}
	return s
}

// places are where the elements of all lists of a query are kept, room behind them too.
func places(e api.Expr) []uintptr {
	var out []uintptr
	for i := range e.P[:cap(e.P)] {
		out = append(out, uintptr(unsafe.Pointer(&e.P[:cap(e.P)][i])))
	}
	for i := range e.L[:cap(e.L)] {
		out = append(out, uintptr(unsafe.Pointer(&e.L[:cap(e.L)][i])))
	}
	for _, x := range e.L {
		out = append(out, places(x)...)
	}
	return out
}

// shared tells whether two of some queries, or two lists of one, have an element in common.
func shared(l ...api.Expr) bool {
	seen := map[uintptr]bool{}
	for _, e := range l {
		for _, place := range places(e) {
			if seen[place] {
				return true
			}
			seen[place] = true
		}
	}
	return false
}

// part is one of a query, as what may be changed, and how many it is within.
type part struct {
	n     *api.Expr
	above int
}

// parts are a query, and all that are in it.
func parts(e *api.Expr, above int) []part {
	out := []part{{e, above}}
	for i := range e.L {
		out = append(out, parts(&e.L[i], above+1)...)
	}
	return out
}
