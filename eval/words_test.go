package eval_test

import (
	"cmp"
	"fmt"
	"math/big"
	"slices"
	"strings"
	"testing"
	"unsafe"

	"truffle/api"
	"truffle/eval"
	"truffle/table"
	"truffle/typed"
	"truffle/typing"
	"truffle/value"
)

// The messages of the schema of all forms.
const (
	forms = iota // each kind: alone, repeated, and in a oneof
	maps         // each key's kind, and each kind of values
	none         // no fields
	msgs
)

// Where the fields of message forms begin, by their kinds.
const (
	alone    = 1
	repeated = 11
	inOne    = 21
)

// Where the fields of message maps begin, by the place of the key's kind, and by the kinds of their values.
const (
	byKey     = 1
	textToAny = 11
	numToAny  = 21
)

// kindNames are the names of kinds, typeNames those of types, and opNames those of Ops.
var (
	kindNames = strings.Fields("int sint uint flag fix4 fix8 enum text raw sub")
	typeNames = strings.Fields("num bool text raw")
	opNames   = strings.Fields("num bool text raw self get has count sum min max eq lt not and or any all")
)

// keyKinds are the kinds that keys may have.
var keyKinds = []int{api.Int, api.Sint, api.Uint, api.Flag, api.Fix4, api.Fix8, api.Text}

// typeOf are the types of the kinds that have one.
var typeOf = map[int]int{
	api.Int: api.TNum, api.Sint: api.TNum, api.Uint: api.TNum, api.Flag: api.TBool, api.Fix4: api.TNum,
	api.Fix8: api.TNum, api.Enum: api.TNum, api.Text: api.TText, api.Raw: api.TRaw,
}

// refOf is what a field of a kind refers to.
func refOf(kind, sub int) int {
	switch kind {
	case api.Sub:
		return sub
	case api.Enum:
		return 1
	}
	return 0
}

// whole is a schema of all forms of fields. Of message forms, sub leads to maps, r_sub and o_sub back; of maps, k_ and s_sub to forms, and t_sub back.
func whole() api.Schema {
	s := api.Schema{
		M: []api.MsgDef{forms: {Name: "Forms"}, maps: {Name: "Maps"}, none: {Name: "None"}},
		E: []api.EnumDef{{Name: "E", V: []string{"Z"}, N: []int64{0}}, {Name: "F", V: []string{"Z", "Y"}, N: []int64{0, 7}}},
	}
	add := func(m int, name string, f api.FieldDef) {
		f.Name = name
		s.M[m].F = append(s.M[m].F, f)
	}
	for kind, name := range kindNames {
		add(forms, name, api.FieldDef{No: alone + kind, Kind: kind, Ref: refOf(kind, maps), Key: api.NoKey})
	}
	for kind, name := range kindNames {
		add(forms, "r_"+name, api.FieldDef{No: repeated + kind, Kind: kind, Ref: refOf(kind, forms), Rep: true, Key: api.NoKey})
	}
	for kind, name := range kindNames {
		add(forms, "o_"+name, api.FieldDef{No: inOne + kind, Kind: kind, Ref: refOf(kind, forms), Key: api.NoKey, One: 1 + kind%2*29})
	}
	for i, key := range keyKinds {
		add(maps, "k_"+kindNames[key], api.FieldDef{No: byKey + i, Kind: api.Sub, Ref: forms, Key: key})
	}
	for kind, name := range kindNames {
		add(maps, "t_"+name, api.FieldDef{No: textToAny + kind, Kind: kind, Ref: refOf(kind, maps), Key: api.Text})
	}
	for kind, name := range kindNames {
		add(maps, "s_"+name, api.FieldDef{No: numToAny + kind, Kind: kind, Ref: refOf(kind, forms), Key: api.Sint})
	}
	return s
}

// small is a schema with fields of most forms, of message A.
const small = `
message A {
  int64 a = 1; repeated sint64 r = 2; string t = 3; A s = 4; map<string, A> m = 5;
  oneof o { bool p = 6; A q = 7; string w = 8; }
  repeated A l = 9; map<bool, bytes> k = 10; repeated string u = 11; repeated bool z = 12; E e = 13; bytes y = 15;
  repeated bytes v = 16; bool b = 17; map<uint32, int64> n = 18; B d = 19; repeated B g = 20; map<sint64, B> h = 21;
}
message B { int64 c = 1; repeated int64 r = 2; A a = 3; bool b = 4; }
enum E { Z = 0; Y = 5; }`

// read is the schema of a text.
func read(t *testing.T, s string) api.Schema {
	t.Helper()
	schema, at, err := table.Read(s)
	if err != api.OK {
		t.Fatalf("%d at %d of %s", err, at, s)
	}
	return schema
}

// wrongSchemas are some that may not be, each for one reason.
func wrongSchemas() []api.Schema {
	wrong := []api.Schema{{}, {M: []api.MsgDef{}}, {E: whole().E}, {M: make([]api.MsgDef, 2)}}
	for _, do := range []func(s *api.Schema){
		func(s *api.Schema) { s.M[none].Name = "Maps" },
		func(s *api.Schema) { s.M[none].Name = "int64" },
		func(s *api.Schema) { s.M[forms].F[1].No = 1 },
		func(s *api.Schema) { s.M[forms].F[9].Ref = msgs },
		func(s *api.Schema) { s.M[forms].F[0].Ref = 1 },
		func(s *api.Schema) { s.M[maps].F[0].Key = api.Raw },
		func(s *api.Schema) { s.M[maps].F[0].Rep = true },
		func(s *api.Schema) { s.E[1].N[0] = 1 },
		func(s *api.Schema) { s.E = make([]api.EnumDef, 21) },
	} {
		s := whole()
		do(&s)
		wrong = append(wrong, s)
	}
	return wrong
}

// noMessages are places at which that schema has no message.
var noMessages = []int{-1, msgs, msgs + 1, 20, 1 << 40, -1 << 63}

// num, str and sub are values: a number, a text, and a message of these slots.
func num(n int64) api.Val       { return api.Val{N: n} }
func str(s string) api.Val      { return api.Val{S: s} }
func sub(l ...api.Slot) api.Val { return api.Val{M: []api.Msg{{F: l}}} }

// nums are values that are numbers, strs such that are texts.
func nums(l ...int64) []api.Val {
	var out []api.Val
	for _, n := range l {
		out = append(out, num(n))
	}
	return out
}

func strs(l ...string) []api.Val {
	var out []api.Val
	for _, s := range l {
		out = append(out, str(s))
	}
	return out
}

// msg is a message of these slots, slot one of values in V, pairs one of values in K and V, one by one.
func msg(l ...api.Slot) api.Msg             { return api.Msg{F: l} }
func slot(no int, l ...api.Val) api.Slot    { return api.Slot{No: no, V: l} }
func pairs(no int, k, v []api.Val) api.Slot { return api.Slot{No: no, K: k, V: v} }

// step is one without a key, byNum one with a key that counts, and byText one with a text.
func step(no int) api.Step             { return api.Step{No: no} }
func byNum(no int, n int64) api.Step   { return api.Step{No: no, Map: true, N: n} }
func byText(no int, s string) api.Step { return api.Step{No: no, Map: true, S: s} }

// byVal is a step with a key that is a value.
func byVal(no int, k api.Val) api.Step { return api.Step{No: no, Map: true, N: k.N, S: k.S} }

// path is one of steps without keys.
func path(nos ...int) []api.Step {
	var l []api.Step
	for _, no := range nos {
		l = append(l, step(no))
	}
	return l
}

// number, truth, text, raw and self are queries that are values.
func number(n int64) api.Expr { return api.Expr{Op: api.OpNum, T: api.TNum, N: n} }
func truth(n int64) api.Expr  { return api.Expr{Op: api.OpBool, T: api.TBool, N: n} }
func text(s string) api.Expr  { return api.Expr{Op: api.OpText, T: api.TText, S: s} }
func raw(s string) api.Expr   { return api.Expr{Op: api.OpRaw, T: api.TRaw, S: s} }
func self(t int) api.Expr     { return api.Expr{Op: api.OpSelf, T: t} }

// ask is a query of a path, each one of what a path leads to, and join one of others.
func ask(op, t int, p ...api.Step) api.Expr { return api.Expr{Op: op, T: t, P: p} }
func each(op int, of api.Expr, p ...api.Step) api.Expr {
	return api.Expr{Op: op, T: api.TBool, P: p, L: []api.Expr{of}}
}
func join(op int, l ...api.Expr) api.Expr { return api.Expr{Op: op, T: api.TBool, L: l} }

// given is a query that tells a value of a type.
func given(t int, v api.Val) api.Expr {
	return map[int]api.Expr{api.TNum: number(v.N), api.TBool: truth(v.N), api.TText: text(v.S), api.TRaw: raw(v.S)}[t]
}

// said is what a query tells of a type: a value, or yes or no.
func said(t int, v api.Val) api.Result { return api.Result{T: t, N: v.N, S: v.S} }
func yes(is bool) api.Result {
	if is {
		return api.Result{T: api.TBool, N: 1}
	}
	return api.Result{T: api.TBool, N: 0}
}

// leaf is a value as the words see it: its key, itself, or the message that it is, by the numbers of fields.
type leaf struct {
	k, v         api.Val
	keyed, isMsg bool
	sub          tree
}

type tree map[int][]leaf

// treeOf is a message that is of message m, as it is normal.
func treeOf(s api.Schema, m int, x api.Msg) tree {
	out := tree{}
	for _, slot := range x.F {
		f := s.M[m].F[slices.IndexFunc(s.M[m].F, func(f api.FieldDef) bool { return f.No == slot.No })]
		var l []leaf
		for i, v := range slot.V {
			if !f.Rep && f.Key == api.NoKey && f.One == 0 && f.Kind != api.Sub && v.N == 0 && v.S == "" {
				continue
			}
			one := leaf{v: v}
			if f.Key != api.NoKey {
				one.k, one.keyed = slot.K[i], true
				l = slices.DeleteFunc(l, func(x leaf) bool { return x.k.N == one.k.N && x.k.S == one.k.S })
			}
			if f.Kind == api.Sub {
				one.isMsg, one.sub = true, treeOf(s, f.Ref, v.M[0])
			}
			l = append(l, one)
		}
		if len(l) > 0 {
			slices.SortStableFunc(l, func(a, b leaf) int { return cmp.Or(cmp.Compare(a.k.N, b.k.N), strings.Compare(a.k.S, b.k.S)) })
			out[f.No] = l
		}
	}
	return out
}

// find are the values that a path finds.
func (x tree) find(l []api.Step) []leaf {
	found := x[l[0].No]
	if l[0].Map {
		found = slices.DeleteFunc(slices.Clone(found), func(x leaf) bool { return x.k.N != l[0].N || x.k.S != l[0].S })
	}
	if len(l) == 1 || len(found) == 0 {
		return found
	}
	return found[0].sub.find(l[1:])
}

// val is a value, normal.
func (x leaf) val() api.Val {
	if !x.isMsg {
		return api.Val{N: x.v.N, S: x.v.S}
	}
	var m api.Msg
	for no := range x.sub {
		s := api.Slot{No: no}
		for _, y := range x.sub[no] {
			s.V = append(s.V, y.val())
			if y.keyed {
				s.K = append(s.K, y.k)
			}
		}
		m.F = append(m.F, s)
	}
	slices.SortFunc(m.F, func(a, b api.Slot) int { return cmp.Compare(a.No, b.No) })
	return api.Val{M: []api.Msg{m}}
}

// wantSum is what P16.1 asks of Sum.
func wantSum(l []int64) (int64, bool) {
	sum := new(big.Int)
	for _, n := range l {
		sum.Add(sum, big.NewInt(n))
	}
	if !sum.IsInt64() {
		return 0, false
	}
	return sum.Int64(), true
}

// wantTold is what a query tells of a value, and all errors that come up; what is told beside one does not matter.
func wantTold(e api.Expr, at leaf) (api.Result, []api.Errno) {
	var found []leaf
	if len(e.P) > 0 {
		found = at.sub.find(e.P)
	}
	var parts []api.Result
	var errs []api.Errno
	ask := func(e api.Expr, at leaf) {
		r, wrong := wantTold(e, at)
		parts = append(parts, r)
		errs = append(errs, wrong...)
	}
	count := func(is int64) int {
		n := 0
		for _, r := range parts {
			if r.N == is {
				n++
			}
		}
		return n
	}
	switch e.Op {
	case api.OpAny, api.OpAll:
		for _, x := range found {
			ask(e.L[0], x)
		}
	default:
		for _, x := range e.L {
			ask(x, at)
		}
	}
	switch e.Op {
	case api.OpNum, api.OpBool, api.OpText, api.OpRaw:
		return api.Result{T: e.T, N: e.N, S: e.S}, nil
	case api.OpSelf:
		return said(e.T, at.v), nil
	case api.OpGet:
		return said(e.T, append(found, leaf{})[0].v), nil
	case api.OpHas:
		return yes(len(found) > 0), nil
	case api.OpCount:
		return said(e.T, num(int64(len(found)))), nil
	case api.OpSum, api.OpMin, api.OpMax:
		return wantReckoned(e, found)
	case api.OpEq:
		return yes(parts[0].N == parts[1].N && parts[0].S == parts[1].S), errs
	case api.OpLt:
		return yes(parts[0].N < parts[1].N || strings.Compare(parts[0].S, parts[1].S) < 0), errs
	case api.OpNot:
		return yes(parts[0].N == 0), errs
	case api.OpAnd, api.OpAll:
		return yes(count(0) == 0), errs
	}
	return yes(count(1) > 0), errs
}

// wantReckoned is what numbers come to.
func wantReckoned(e api.Expr, found []leaf) (api.Result, []api.Errno) {
	var l []int64
	for _, x := range found {
		l = append(l, x.v.N)
	}
	slices.Sort(l)
	if e.Op == api.OpSum {
		n, ok := wantSum(l)
		if !ok {
			return api.Result{}, []api.Errno{api.ErrOver}
		}
		return said(e.T, num(n)), nil
	}
	if len(l) == 0 {
		return api.Result{}, []api.Errno{api.ErrEmpty}
	}
	if e.Op == api.OpMin {
		return said(e.T, num(l[0])), nil
	}
	return said(e.T, num(l[len(l)-1])), nil
}

// wantEval is what P16.2 asks of Eval.
func wantEval(s api.Schema, m int, e api.Expr, x api.Msg) (api.Result, api.Errno) {
	if !typing.May(s, m, e) || !typed.May(s, m, x) {
		return api.Result{}, api.ErrArg
	}
	r, errs := wantTold(e, leaf{isMsg: true, sub: treeOf(s, m, x)})
	if len(errs) > 0 {
		return api.Result{}, slices.Max(errs)
	}
	return r, api.OK
}

// wantWalk is what P16.1 asks of Walk.
func wantWalk(s api.Schema, m int, x api.Msg, l []api.Step) (api.Slot, bool) {
	if _, _, ok := typing.Path(s, m, l); !ok || !typed.May(s, m, x) {
		return api.Slot{}, false
	}
	found := treeOf(s, m, x).find(l)
	if len(found) == 0 {
		return api.Slot{}, false
	}
	out := api.Slot{No: l[len(l)-1].No}
	for _, y := range found {
		out.V = append(out.V, y.val())
	}
	return out, true
}

// hold holds what Eval tells against the words, twice (R5), and that what comes in stays as it was (R3).
func hold(t *testing.T, s api.Schema, m int, e api.Expr, x api.Msg) api.Errno {
	t.Helper()
	want, wantErr := wantEval(s, m, e, x)
	was := show(e) + showMsg(x)
	for range 2 {
		if r, err := eval.Eval(s, m, e, x); r != want || err != wantErr {
			t.Fatalf("Eval(%d, %s, %s) is %+v, %d, not %+v, %d", m, cut(show(e)), cut(showMsg(x)), r, err, want, wantErr)
		}
	}
	if show(e)+showMsg(x) != was {
		t.Fatalf("%s became %s", cut(was), cut(show(e)+showMsg(x)))
	}
	return wantErr
}

// holdTold holds what Eval tells against this, and against the words.
func holdTold(t *testing.T, s api.Schema, m int, e api.Expr, x api.Msg, want api.Result, wantErr api.Errno) {
	t.Helper()
	if r, err := eval.Eval(s, m, e, x); r != want || err != wantErr {
		t.Fatalf("Eval(%d, %s, %s) is %+v, %d, not %+v, %d", m, cut(show(e)), cut(showMsg(x)), r, err, want, wantErr)
	}
	hold(t, s, m, e, x)
}

// query is the query of a text.
func query(t *testing.T, s api.Schema, m int, src string) api.Expr {
	t.Helper()
	e, at, err := typing.Read(s, m, src)
	if err != api.OK {
		t.Fatalf("%d at %d of %s", err, at, src)
	}
	return e
}

// holdText holds what a query tells, as a text, of a message of message 0, against this.
func holdText(t *testing.T, s api.Schema, src string, x api.Msg, want api.Result, wantErr api.Errno) {
	t.Helper()
	holdTold(t, s, 0, query(t, s, 0, src), x, want, wantErr)
}

// holdYes holds several queries, as texts, that all tell yes, or no.
func holdYes(t *testing.T, s api.Schema, x api.Msg, is bool, l ...string) {
	t.Helper()
	for _, src := range l {
		holdText(t, s, src, x, yes(is), api.OK)
	}
}

// holdErr holds several queries, as texts, that all tell an error.
func holdErr(t *testing.T, s api.Schema, x api.Msg, err api.Errno, l ...string) {
	t.Helper()
	for _, src := range l {
		holdText(t, s, src, x, api.Result{}, err)
	}
}

// holdWalk holds what Walk tells against the words, twice (R5), that what comes in stays as it was, and that the answer is its own (R3).
func holdWalk(t *testing.T, s api.Schema, m int, x api.Msg, l []api.Step) (api.Slot, bool) {
	t.Helper()
	want, wantOK := wantWalk(s, m, x, l)
	wasMsg, wasPath := showMsg(x), showPath(l)
	var got api.Slot
	for range 2 {
		var ok bool
		got, ok = eval.Walk(s, m, x, l)
		if ok != wantOK || showMsg(msg(got)) != showMsg(msg(want)) {
			t.Fatalf("Walk(%d, %s, %s) is %s, %t, not %s, %t", m, cut(wasMsg), wasPath, cut(showMsg(msg(got))), ok, cut(showMsg(msg(want))), wantOK)
		}
		holdOwn(t, lists(msg(got))[1:], lists(x))
	}
	if showMsg(x) != wasMsg || showPath(l) != wasPath {
		t.Fatalf("%s, %s became %s, %s", cut(wasMsg), wasPath, cut(showMsg(x)), showPath(l))
	}
	return got, wantOK
}

// holdFound holds what Walk finds against these values (it is not there, if there are none), and against the words.
func holdFound(t *testing.T, s api.Schema, m int, x api.Msg, l []api.Step, want ...api.Val) {
	t.Helper()
	got, ok := holdWalk(t, s, m, x, l)
	var slot api.Slot
	if len(want) > 0 {
		slot = api.Slot{No: l[len(l)-1].No, V: want}
	}
	if ok != (len(want) > 0) || showMsg(msg(got)) != showMsg(msg(slot)) {
		t.Fatalf("Walk(%d, %s, %s) is %s, %t, not %s", m, cut(showMsg(x)), showPath(l), cut(showMsg(msg(got))), ok, cut(showMsg(msg(slot))))
	}
}

// show is all that is in a query, as a text.
func show(e api.Expr) string {
	out := nameOf(opNames, e.Op) + ":" + nameOf(typeNames, e.T) + showPath(e.P)
	if e.N != 0 {
		out += fmt.Sprintf(" %d", e.N)
	}
	if e.S != "" {
		out += fmt.Sprintf(" %q", e.S)
	}
	if len(e.L) == 0 {
		return out
	}
	var l []string
	for _, x := range e.L {
		l = append(l, show(x))
	}
	return out + "(" + strings.Join(l, ", ") + ")"
}

func showPath(l []api.Step) string {
	var out string
	for _, x := range l {
		out += fmt.Sprintf("/%d", x.No)
		if x.Map || x.N != 0 || x.S != "" {
			out += fmt.Sprintf("[%t %d %q]", x.Map, x.N, x.S)
		}
	}
	return out
}

// showMsg is all that is in a message, as a text.
func showMsg(m api.Msg) string {
	var b strings.Builder
	b.WriteString("{")
	for _, s := range m.F {
		fmt.Fprintf(&b, "<%d", s.No)
		if len(s.K) > 0 {
			b.WriteString(" K" + showVals(s.K))
		}
		b.WriteString(" " + showVals(s.V) + ">")
	}
	b.WriteString("}")
	return b.String()
}

func showVals(l []api.Val) string {
	var b strings.Builder
	for _, v := range l {
		fmt.Fprintf(&b, "(%d %q", v.N, v.S)
		for _, m := range v.M {
			b.WriteString(showMsg(m))
		}
		b.WriteString(")")
	}
	return "[" + b.String() + "]"
}

// nameOf is a name by its place, or that.
func nameOf(names []string, i int) string {
	if i < 0 || i >= len(names) {
		return fmt.Sprint(i)
	}
	return names[i]
}

// cut is the beginning of a text that is long.
func cut(s string) string {
	if len(s) > 600 {
		return s[:600] + ".."
	}
	return s
}

// memory is where a list lies, all its places counted.
type memory struct{ from, upto uintptr }

func memoryOf[T any](l []T) []memory {
	var one T
	from := uintptr(unsafe.Pointer(unsafe.SliceData(l)))
	return []memory{{from, from + uintptr(cap(l))*unsafe.Sizeof(one)}}
}

// lists are where all lists of a message lie, its own first.
func lists(m api.Msg) []memory {
	out := memoryOf(m.F)
	for _, s := range m.F {
		out = append(out, memoryOf(s.K)...)
		out = append(out, memoryOf(s.V)...)
		for _, v := range slices.Concat(s.K, s.V) {
			out = append(out, memoryOf(v.M)...)
			for _, x := range v.M {
				out = append(out, lists(x)...)
			}
		}
	}
	return out
}

// holdOwn holds that an answer's lists share nothing with one another, nor with what was handed in (R3).
func holdOwn(t *testing.T, answer, in []memory) {
	t.Helper()
	for i, a := range answer {
		for _, b := range slices.Concat(answer[i+1:], in) {
			if a.from < b.upto && b.from < a.upto {
				t.Fatalf("the answer shares memory")
			}
		}
	}
}

// own is a message in memory of its own.
func own(x api.Msg) api.Msg { return value.Own(x) }
