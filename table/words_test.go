package table_test

import (
	"math"
	"math/rand/v2"
	"reflect"
	"slices"
	"strconv"

	"truffle/api"
)

// kindOf are the chapter's plain types.
var kindOf = map[string]int{
	"int64": api.Int, "sint64": api.Sint, "uint32": api.Uint, "bool": api.Flag,
	"fixed32": api.Fix4, "sfixed64": api.Fix8, "string": api.Text, "bytes": api.Raw,
}

// plainNames are those of the plain types, in the chapter's order.
var plainNames = []string{"int64", "sint64", "uint32", "bool", "fixed32", "sfixed64", "string", "bytes"}

// keyKinds are the chapter's.
var keyKinds = []int{api.Int, api.Sint, api.Uint, api.Flag, api.Fix4, api.Fix8, api.Text}

// goodNumbers are numbers of fields, at all edges; badNumbers are none.
var (
	goodNumbers = []int64{1, 2, 18998, 18999, 20000, 20001, 536870910, 536870911}
	badNumbers  = []int64{0, -1, -2, -19000, 19000, 19001, 19500, 19998, 19999, 536870912, 536870913, 1 << 31, 1 << 32, 1<<32 + 1, 1<<62 + 1, math.MaxInt64, math.MinInt64, math.MinInt64 + 1}
)

// fault is an error, and where it is told.
type fault struct {
	at  int
	err api.Errno
}

// head is what is asked of a message, or an enum, first.
type head struct {
	name string
	long bool
	at   int
}

// ahead tells whether one of the elements ahead of the i-th is as that.
func ahead[T any, K comparable](l []T, i int, of func(x T) K) bool {
	for k := range i {
		if of(l[k]) == of(l[i]) {
			return true
		}
	}
	return false
}

func nameOfHead(h head) string       { return h.name }
func nameOf(f api.FieldSyn) string   { return f.Name }
func numberOf(f api.FieldSyn) int64  { return f.No }
func valueOf(v api.ValSyn) string    { return v.Name }
func valueNumber(v api.ValSyn) int64 { return v.N }

// headsOf are those of messages, and of enums behind them.
func headsOf(f api.File) []head {
	var l []head
	for _, m := range f.M {
		l = append(l, head{m.Name, len(m.F) > 30 || len(m.Ones) > 30, m.At})
	}
	for _, e := range f.E {
		l = append(l, head{e.Name, len(e.V) < 1 || len(e.V) > 30, e.At})
	}
	return l
}

// isNo tells whether a number is one of a field.
func isNo(no int64) bool { return no >= 1 && no < 1<<29 && no/1000 != 19 }

// typeOf is what a type's name means.
func typeOf(f api.File, name string) (kind, ref int, ok bool) {
	if kind, ok := kindOf[name]; ok {
		return kind, 0, true
	}
	if i := slices.IndexFunc(f.M, func(m api.MsgSyn) bool { return m.Name == name }); i >= 0 {
		return api.Sub, i, true
	}
	if i := slices.IndexFunc(f.E, func(e api.EnumSyn) bool { return e.Name == name }); i >= 0 {
		return api.Enum, i, true
	}
	return 0, 0, false
}

// many is how many of some are so.
func many(l ...bool) int {
	n := 0
	for _, is := range l {
		if is {
			n++
		}
	}
	return n
}

// wantFieldError is what is wrong with the i-th field of a message.
func wantFieldError(f api.File, m api.MsgSyn, i int) api.Errno {
	x := m.F[i]
	if ahead(m.F, i, nameOf) || slices.Contains(m.Ones, x.Name) || !isNo(x.No) || ahead(m.F, i, numberOf) || slices.Contains(m.Res, x.No) || x.One < 0 || x.One > len(m.Ones) || many(x.Rep, x.Key != "", x.One != 0) >= 2 {
		return api.ErrForm
	}
	if kind, ok := kindOf[x.Key]; x.Key != "" && (!ok || !slices.Contains(keyKinds, kind)) {
		return api.ErrType
	}
	if _, _, ok := typeOf(f, x.Type); !ok {
		return api.ErrNone
	}
	return api.OK
}

// wantFaults are all that P8.1 names, in its order.
func wantFaults(f api.File) []fault {
	var l []fault
	if len(f.M) == 0 || len(f.M) > 20 || len(f.E) > 20 {
		l = append(l, fault{0, api.ErrLong})
	}
	for i, h := range headsOf(f) {
		if _, ok := kindOf[h.name]; ok || ahead(headsOf(f), i, nameOfHead) {
			l = append(l, fault{h.at, api.ErrForm})
		}
		if h.long {
			l = append(l, fault{h.at, api.ErrLong})
		}
	}
	for _, m := range f.M {
		for i, x := range m.F {
			if err := wantFieldError(f, m, i); err != api.OK {
				l = append(l, fault{x.At, err})
			}
		}
	}
	for _, e := range f.E {
		for i, v := range e.V {
			if ahead(e.V, i, valueOf) || ahead(e.V, i, valueNumber) || v.N < -1<<31 || v.N >= 1<<31 || i == 0 && v.N != 0 {
				l = append(l, fault{v.At, api.ErrForm})
			}
		}
	}
	return l
}

// wantField is what a field is resolved to.
func wantField(f api.File, x api.FieldSyn) api.FieldDef {
	kind, ref, _ := typeOf(f, x.Type)
	key := -1
	if x.Key != "" {
		key = kindOf[x.Key]
	}
	return api.FieldDef{No: int(x.No), Name: x.Name, Kind: kind, Ref: ref, Rep: x.Rep, Key: key, One: x.One}
}

// wantSchema is the schema of a file without faults.
func wantSchema(f api.File) api.Schema {
	var s api.Schema
	for _, m := range f.M {
		def := api.MsgDef{Name: m.Name}
		for len(def.F) < len(m.F) {
			least := -1
			for i, x := range m.F {
				done := len(def.F) > 0 && int(x.No) <= def.F[len(def.F)-1].No
				if !done && (least < 0 || x.No < m.F[least].No) {
					least = i
				}
			}
			def.F = append(def.F, wantField(f, m.F[least]))
		}
		s.M = append(s.M, def)
	}
	for _, e := range f.E {
		def := api.EnumDef{Name: e.Name}
		for _, v := range e.V {
			def.V, def.N = append(def.V, v.Name), append(def.N, v.N)
		}
		s.E = append(s.E, def)
	}
	return s
}

// wantResolved is what P8.1 asks.
func wantResolved(f api.File) (api.Schema, int, api.Errno) {
	if l := wantFaults(f); len(l) > 0 {
		return api.Schema{}, l[0].at, l[0].err
	}
	return wantSchema(f), 0, api.OK
}

// twice tells whether two elements of a list are as one another.
func twice[K comparable](l []K) bool {
	for i := range l {
		if slices.Contains(l[:i], l[i]) {
			return true
		}
	}
	return false
}

// wantMayField is what the chapter asks of a field of a schema that may be.
func wantMayField(s api.Schema, f api.FieldDef) bool {
	refs := map[int]int{api.Sub: len(s.M), api.Enum: len(s.E)}
	most, has := refs[f.Kind]
	if !has {
		most = 1
	}
	isMap := f.Key != -1
	return isNo(int64(f.No)) &&
		f.Kind >= api.Int && f.Kind <= api.Sub &&
		f.Ref >= 0 && f.Ref < most &&
		(!isMap || slices.Contains(keyKinds, f.Key) && !f.Rep) &&
		f.One >= 0 && f.One <= 30 &&
		(f.One == 0 || !f.Rep && !isMap)
}

// wantMay is what the chapter asks of a schema that may be.
func wantMay(s api.Schema) bool {
	may := len(s.M) >= 1 && len(s.M) <= 20 && len(s.E) <= 20
	var heads []string
	for _, m := range s.M {
		heads = append(heads, m.Name)
		var names []string
		for i, f := range m.F {
			names = append(names, f.Name)
			may = may && wantMayField(s, f) && (i == 0 || m.F[i-1].No < f.No)
		}
		may = may && len(m.F) <= 30 && !twice(names)
	}
	for _, e := range s.E {
		heads = append(heads, e.Name)
		may = may && len(e.V) >= 1 && len(e.V) <= 30 && len(e.N) == len(e.V) && !twice(e.V) && !twice(e.N) && e.N[0] == 0
		for _, n := range e.N {
			may = may && n >= -1<<31 && n < 1<<31
		}
	}
	for _, h := range heads {
		_, plain := kindOf[h]
		may = may && !plain
	}
	return may && !twice(heads)
}

// own is a list of its own, nil if it is empty.
func own[T any](l []T) []T {
	if len(l) == 0 {
		return nil
	}
	return slices.Clone(l)
}

// copyOf is a file of its own, its empty lists nil.
func copyOf(f api.File) api.File {
	g := api.File{M: own(f.M), E: own(f.E)}
	for i, m := range g.M {
		g.M[i].F, g.M[i].Ones, g.M[i].Res = own(m.F), own(m.Ones), own(m.Res)
	}
	for i, e := range g.E {
		g.E[i].V = own(e.V)
	}
	return g
}

// schemaCopy is a schema of its own, its empty lists nil.
func schemaCopy(s api.Schema) api.Schema {
	c := api.Schema{M: own(s.M), E: own(s.E)}
	for i, m := range c.M {
		c.M[i].F = own(m.F)
	}
	for i, e := range c.E {
		c.E[i].V, c.E[i].N = own(e.V), own(e.N)
	}
	return c
}

// alike tells whether two schemas have the same parts.
func alike(s, t api.Schema) bool { return reflect.DeepEqual(schemaCopy(s), schemaCopy(t)) }

// names are n of them, each another one.
func names(n int, begin string) []string {
	var l []string
	for i := range n {
		l = append(l, begin+strconv.Itoa(i))
	}
	return l
}

// someNumbers are n numbers of fields, each another one, in any order.
func someNumbers(chance *rand.Rand, n int) []int64 {
	l := slices.Clone(goodNumbers)
	for no := int64(3); len(l) < n+8; no++ {
		l = append(l, no)
	}
	chance.Shuffle(len(l), func(i, k int) { l[i], l[k] = l[k], l[i] })
	return l[:n]
}

// goodFile is some file that has a schema.
func goodFile(chance *rand.Rand) api.File {
	var f api.File
	types := slices.Clone(plainNames)
	place := func() int { return chance.IntN(1000) - 100 }
	for _, name := range names(1+chance.IntN(4), "M") {
		f.M = append(f.M, api.MsgSyn{Name: name, Ones: names(chance.IntN(4), "o"), Res: []int64{7777, 0, 19001}[:chance.IntN(4)], At: place()})
		types = append(types, name, name)
	}
	for i, name := range names(chance.IntN(4), "E") {
		f.E = append(f.E, api.EnumSyn{Name: name, At: place()})
		for k, v := range names(1+chance.IntN(4), "v") {
			f.E[i].V = append(f.E[i].V, api.ValSyn{Name: v, N: []int64{0, -1 << 31, 1<<31 - 1, 5}[k], At: place()})
		}
		types = append(types, name, name)
	}
	for i, m := range f.M {
		count := chance.IntN(7)
		for k, no := range someNumbers(chance, count) {
			x := api.FieldSyn{Type: types[chance.IntN(len(types))], Name: "f" + strconv.Itoa(k), No: no, At: place()}
			switch chance.IntN(5) {
			case 0:
				x.Rep = true
			case 1:
				x.Key = plainNames[chance.IntN(7)]
			case 2:
				x.One = chance.IntN(len(m.Ones) + 1)
			}
			f.M[i].F = append(f.M[i].F, x)
		}
	}
	return f
}

// spoilField changes a part of a field, mostly so that it may not be.
func spoilField(chance *rand.Rand, m api.MsgSyn, x api.FieldSyn) api.FieldSyn {
	other := m.F[chance.IntN(len(m.F))]
	switch chance.IntN(9) {
	case 0:
		x.Name = other.Name
	case 1:
		x.Name = append(m.Ones, "o0")[chance.IntN(len(m.Ones)+1)]
	case 2:
		x.No = badNumbers[chance.IntN(len(badNumbers))]
	case 3:
		x.No = other.No
	case 4:
		x.No = append(m.Res, 8888)[chance.IntN(len(m.Res)+1)]
	case 5:
		x.One = chance.IntN(len(m.Ones)+4) - 2
	case 6:
		x.Rep = true
	case 7:
		x.Key = []string{"bytes", "M0", "E0", "x", "bool", "string", ""}[chance.IntN(7)]
	default:
		x.Type = []string{"", "x", "E3", "M4", "int32", "M0"}[chance.IntN(6)]
	}
	return x
}

// spoilEnum changes a part of an enum, mostly so that it may not be.
func spoilEnum(chance *rand.Rand, e api.EnumSyn) api.EnumSyn {
	if len(e.V) == 0 || chance.IntN(6) == 0 {
		e.V = nil
		return e
	}
	i, other := chance.IntN(len(e.V)), e.V[chance.IntN(len(e.V))]
	switch chance.IntN(3) {
	case 0:
		e.V[i].Name = other.Name
	case 1:
		e.V[i].N = other.N
	default:
		e.V[i].N = []int64{1, -1, 0, 1 << 31, -1<<31 - 1, 1 << 32, math.MaxInt64, math.MinInt64}[chance.IntN(8)]
	}
	return e
}

// spoilMessage changes a part of a message, mostly so that it may not be.
func spoilMessage(chance *rand.Rand, f api.File, m api.MsgSyn) api.MsgSyn {
	switch {
	case chance.IntN(10) == 0:
		m.Name = []string{"bool", "E0", "M0", "bytes", "M1", ""}[chance.IntN(6)]
	case chance.IntN(15) == 0:
		m.Ones = names(29+chance.IntN(4), "p")
	case chance.IntN(15) == 0:
		m.F = nil
		for i, name := range names(29+chance.IntN(4), "g") {
			m.F = append(m.F, api.FieldSyn{Type: "bool", Name: name, No: int64(50 - i), At: i})
		}
	case len(m.F) > 0:
		i := chance.IntN(len(m.F))
		m.F[i] = spoilField(chance, m, m.F[i])
	}
	return m
}

// spoil changes a part of a file.
func spoil(chance *rand.Rand, f api.File) api.File {
	if len(f.E) > 0 && chance.IntN(3) == 0 {
		i := chance.IntN(len(f.E))
		if chance.IntN(5) == 0 {
			f.E[i].Name = []string{"bool", "E0", "M0", "int64", "E1", ""}[chance.IntN(6)]
			return f
		}
		f.E[i] = spoilEnum(chance, f.E[i])
		return f
	}
	if len(f.M) > 0 && chance.IntN(30) > 0 {
		i := chance.IntN(len(f.M))
		f.M[i] = spoilMessage(chance, f, f.M[i])
		return f
	}
	switch chance.IntN(3) {
	case 0:
		f.M = nil
	case 1:
		for _, name := range names(18, "N") {
			f.M = append(f.M, api.MsgSyn{Name: name})
		}
	default:
		for _, name := range names(18, "F") {
			f.E = append(f.E, api.EnumSyn{Name: name, V: []api.ValSyn{{Name: "z"}}})
		}
	}
	return f
}
