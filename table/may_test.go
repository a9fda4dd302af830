package table_test

import (
	"fmt"
	"math"
	"math/rand/v2"
	"slices"
	"strings"
	"testing"

	"truffle/api"
	"truffle/table"
)

// whole is a schema of everything: three messages, of which the last one has no fields, and two enums.
func whole() api.Schema {
	return api.Schema{
		M: []api.MsgDef{
			{Name: "A", F: []api.FieldDef{
				fieldOf(1, "a", api.Int),
				{No: 2, Name: "b", Kind: api.Sub, Ref: 2, Rep: true, Key: -1},
				{No: 5, Name: "c", Kind: api.Enum, Ref: 1, Key: api.Text},
				{No: 9, Name: "d", Kind: api.Raw, Key: -1, One: 1},
				{No: 18999, Name: "e", Kind: api.Sub, Ref: 1, Key: -1, One: 30},
			}},
			{Name: "B", F: []api.FieldDef{fieldOf(20000, "a", api.Flag), {No: 536870911, Name: "x", Kind: api.Text, Rep: true, Key: -1}}},
			{Name: "C"},
		},
		E: []api.EnumDef{
			{Name: "E", V: []string{"Z", "Y", "X"}, N: []int64{0, -1 << 31, 1<<31 - 1}},
			{Name: "F", V: []string{"Z", "Y"}, N: []int64{0, 7}},
		},
	}
}

// change is one of a schema.
type change struct {
	what string
	do   func(s *api.Schema)
}

// newMessages and newEnums are n of them that may be.
func newMessages(n int) []api.MsgDef {
	var l []api.MsgDef
	for _, name := range names(n, "M") {
		l = append(l, api.MsgDef{Name: name})
	}
	return l
}

func newEnums(n int) []api.EnumDef {
	var l []api.EnumDef
	for _, name := range names(n, "N") {
		l = append(l, api.EnumDef{Name: name, V: []string{"Z"}, N: []int64{0}})
	}
	return l
}

// newFields are n of them that may be.
func newFields(n int) []api.FieldDef {
	var l []api.FieldDef
	for i, name := range names(n, "f") {
		l = append(l, fieldOf(i+1, name, api.Text))
	}
	return l
}

// newEnum is one of n names, and of k numbers.
func newEnum(n, k int) api.EnumDef {
	e := api.EnumDef{Name: "New", V: names(n, "v")}
	for i := range k {
		e.N = append(e.N, int64(-i))
	}
	return e
}

// changesOfFields are of the i-th field of a message: those after which a schema may be, and may not be.
func changesOfFields(m, i int) (fine, wrong []change) {
	on := func(what string, is bool, do func(f *api.FieldDef)) {
		c := change{fmt.Sprintf("field %d of message %d: %s", i, m, what), func(s *api.Schema) { do(&s.M[m].F[i]) }}
		if is {
			fine = append(fine, c)
			return
		}
		wrong = append(wrong, c)
	}
	for _, kind := range []int{math.MinInt, -2, -1, 0, 1, 2, 3, 4, 5, 6, 7, 8, 9, 10, 11, 1 << 32, math.MaxInt} {
		for _, ref := range []int{math.MinInt, -1, 0, 1, 2, 3, 20, 1 << 32, math.MaxInt} {
			is := ref == 0 && kind >= 0 && kind < 10 || kind == api.Enum && ref == 1 || kind == api.Sub && (ref == 1 || ref == 2)
			on(fmt.Sprintf("kind %d, ref %d", kind, ref), is, func(f *api.FieldDef) { f.Kind, f.Ref = kind, ref })
		}
	}
	for _, key := range []int{math.MinInt, -3, -2, -1, 0, 1, 2, 3, 4, 5, 6, 7, 8, 9, 10, 1 << 32, math.MaxInt} {
		for _, rep := range []bool{false, true} {
			for _, one := range []int{math.MinInt, -2, -1, 0, 1, 2, 29, 30, 31, 32, 1 << 32, math.MaxInt} {
				isKey := slices.Contains(keyKinds, key)
				is := (key == -1 || isKey) && one >= 0 && one <= 30 && many(rep, isKey, one > 0) < 2
				on(fmt.Sprintf("key %d, rep %v, one %d", key, rep, one), is, func(f *api.FieldDef) { f.Key, f.Rep, f.One = key, rep, one })
			}
		}
	}
	for _, name := range []string{"", "A", "int64", "\xff", "é", " ", "new", strings.Repeat("n", 9000)} {
		on("name "+name, true, func(f *api.FieldDef) { f.Name = name })
	}
	return fine, wrong
}

// fineChanges are those after which a schema may be.
func fineChanges() []change {
	l := []change{
		{"none", func(s *api.Schema) {}},
		{"1 message", func(s *api.Schema) { *s = api.Schema{M: newMessages(1)} }},
		{"20 messages", func(s *api.Schema) { s.M = append(s.M, newMessages(17)...) }},
		{"20 enums", func(s *api.Schema) { s.E = append(s.E, newEnums(18)...) }},
		{"20 of both", func(s *api.Schema) { *s = api.Schema{M: newMessages(20), E: newEnums(20)} }},
		{"no enums", func(s *api.Schema) { *s = api.Schema{M: newMessages(1), E: []api.EnumDef{}} }},
		{"no fields", func(s *api.Schema) { s.M[0].F, s.M[1].F = []api.FieldDef{}, nil }},
		{"30 fields", func(s *api.Schema) { s.M[0].F, s.M[2].F = newFields(30), newFields(30) }},
		{"29 fields", func(s *api.Schema) { s.M[2].F = newFields(29) }},
		{"1 name", func(s *api.Schema) { s.E[0], s.E[1].V, s.E[1].N = newEnum(1, 1), []string{"Z"}, []int64{0} }},
		{"30 names", func(s *api.Schema) { s.E[1] = newEnum(30, 30) }},
		{"names of enums as others", func(s *api.Schema) { s.E[0].V = []string{"A", "int64", "E"} }},
		{"names of any texts", func(s *api.Schema) { s.E[0].V = []string{"", "\xff", "a b"} }},
		{"numbers about both ends", func(s *api.Schema) { s.E[0].N = []int64{0, -1<<31 + 1, 1<<31 - 2} }},
	}
	for _, name := range []string{"", " ", "\xff", "a", "Z", "int", "int64 ", "Int64", "int32", "message", strings.Repeat("n", 9000)} {
		l = append(l,
			change{"message " + name, func(s *api.Schema) { s.M[1].Name = name }},
			change{"enum " + name, func(s *api.Schema) { s.E[1].Name = name }})
	}
	for _, no := range goodNumbers {
		l = append(l, change{fmt.Sprint("number ", no), func(s *api.Schema) { s.M[0].F = []api.FieldDef{fieldOf(int(no), "a", api.Raw)} }})
	}
	for _, at := range [][2]int{{0, 0}, {0, 2}, {0, 4}, {1, 1}} {
		fine, _ := changesOfFields(at[0], at[1])
		l = append(l, fine...)
	}
	return l
}

// wrongCounts are changes of how many there are.
func wrongCounts() []change {
	return []change{
		{"no messages", func(s *api.Schema) { *s = api.Schema{} }},
		{"empty messages", func(s *api.Schema) { *s = api.Schema{M: []api.MsgDef{}} }},
		{"only enums", func(s *api.Schema) { s.M = nil }},
		{"21 messages", func(s *api.Schema) { s.M = append(s.M, newMessages(18)...) }},
		{"21 new messages", func(s *api.Schema) { *s = api.Schema{M: newMessages(21)} }},
		{"21 enums", func(s *api.Schema) { s.E = append(s.E, newEnums(19)...) }},
		{"31 fields of the first", func(s *api.Schema) { s.M[0].F = newFields(31) }},
		{"31 fields of the last", func(s *api.Schema) { s.M[2].F = newFields(31) }},
		{"no names", func(s *api.Schema) { s.E[0] = api.EnumDef{Name: "E"} }},
		{"no names of the last", func(s *api.Schema) { s.E[1].V, s.E[1].N = []string{}, []int64{} }},
		{"31 names", func(s *api.Schema) { s.E[0] = newEnum(31, 31) }},
		{"31 names of the last", func(s *api.Schema) { s.E[1] = newEnum(31, 31) }},
		{"fewer numbers", func(s *api.Schema) { s.E[0].N = s.E[0].N[:2] }},
		{"fewer names", func(s *api.Schema) { s.E[1].V = s.E[1].V[:1] }},
		{"no numbers", func(s *api.Schema) { s.E[1].N = nil }},
		{"only numbers", func(s *api.Schema) { s.E[1].V = nil }},
		{"31 numbers", func(s *api.Schema) { s.E[0] = newEnum(30, 31) }},
		{"30 numbers", func(s *api.Schema) { s.E[0] = newEnum(31, 30) }},
		{"1 number more", func(s *api.Schema) { s.E[0] = newEnum(1, 2) }},
	}
}

// wrongNames are changes of names.
func wrongNames() []change {
	l := []change{
		{"two messages", func(s *api.Schema) { s.M[1].Name = "A" }},
		{"two messages apart", func(s *api.Schema) { s.M[2].Name = "A" }},
		{"last messages", func(s *api.Schema) { s.M[2].Name = "B" }},
		{"two enums", func(s *api.Schema) { s.E[1].Name = "E" }},
		{"message and enum", func(s *api.Schema) { s.E[0].Name = "A" }},
		{"last message and enum", func(s *api.Schema) { s.E[1].Name = "C" }},
		{"without names", func(s *api.Schema) { s.M[1].Name, s.E[0].Name = "", "" }},
		{"fields", func(s *api.Schema) { s.M[0].F[1].Name = "a" }},
		{"fields apart", func(s *api.Schema) { s.M[0].F[4].Name = "a" }},
		{"last fields", func(s *api.Schema) { s.M[0].F[4].Name = "d" }},
		{"fields of the second", func(s *api.Schema) { s.M[1].F[1].Name = "a" }},
		{"fields without names", func(s *api.Schema) { s.M[1].F[0].Name, s.M[1].F[1].Name = "", "" }},
		{"names of an enum", func(s *api.Schema) { s.E[0].V[1] = "Z" }},
		{"names apart", func(s *api.Schema) { s.E[0].V[2] = "Z" }},
		{"last names", func(s *api.Schema) { s.E[0].V[2] = "Y" }},
		{"names of the last", func(s *api.Schema) { s.E[1].V[1] = "Z" }},
	}
	for _, name := range plainNames {
		l = append(l,
			change{"first message " + name, func(s *api.Schema) { s.M[0].Name = name }},
			change{"last message " + name, func(s *api.Schema) { s.M[2].Name = name }},
			change{"first enum " + name, func(s *api.Schema) { s.E[0].Name = name }},
			change{"last enum " + name, func(s *api.Schema) { s.E[1].Name = name }})
	}
	return l
}

// wrongNumbers are changes of numbers, of fields and of enums.
func wrongNumbers() []change {
	l := []change{
		{"the same numbers", func(s *api.Schema) { s.M[0].F[1].No = 1 }},
		{"the same last numbers", func(s *api.Schema) { s.M[0].F[4].No = 9 }},
		{"the same numbers of the second", func(s *api.Schema) { s.M[1].F[1].No = 20000 }},
		{"falling numbers", func(s *api.Schema) { s.M[0].F[1].No = 6 }},
		{"falling last numbers", func(s *api.Schema) { s.M[0].F[4].No = 8 }},
		{"falling numbers of the second", func(s *api.Schema) { s.M[1].F[1].No = 1 }},
		{"other order", func(s *api.Schema) { slices.Reverse(s.M[1].F) }},
		{"first number of an enum", func(s *api.Schema) { s.E[0].N[0] = 1 }},
		{"first number of the last", func(s *api.Schema) { s.E[1].N[0] = -1 }},
		{"first number is second", func(s *api.Schema) { slices.Reverse(s.E[1].N) }},
		{"numbers", func(s *api.Schema) { s.E[1].N[1] = 0 }},
		{"numbers apart", func(s *api.Schema) { s.E[0].N[2] = 0 }},
		{"last numbers", func(s *api.Schema) { s.E[0].N[2] = -1 << 31 }},
	}
	for _, no := range badNumbers {
		l = append(l,
			change{fmt.Sprint("number ", no), func(s *api.Schema) { s.M[2].F = []api.FieldDef{fieldOf(int(no), "a", api.Raw)} }},
			change{fmt.Sprint("first number ", no), func(s *api.Schema) { s.M[0].F[0].No = int(no) }},
			change{fmt.Sprint("last number ", no), func(s *api.Schema) { s.M[1].F[1].No = int(no) }})
	}
	for _, n := range []int64{1 << 31, -1<<31 - 1, 1 << 32, -1 << 32, 1<<32 + 5, math.MaxInt64, math.MinInt64} {
		l = append(l,
			change{fmt.Sprint("enum's ", n), func(s *api.Schema) { s.E[0].N[1] = n }},
			change{fmt.Sprint("enum's last ", n), func(s *api.Schema) { s.E[0].N[2] = n }},
			change{fmt.Sprint("last enum's ", n), func(s *api.Schema) { s.E[1].N[1] = n }})
	}
	return l
}

// wrongChanges are those after which a schema may not be.
func wrongChanges() []change {
	l := slices.Concat(wrongCounts(), wrongNames(), wrongNumbers())
	for _, at := range [][2]int{{0, 0}, {0, 2}, {0, 4}, {1, 1}} {
		_, wrong := changesOfFields(at[0], at[1])
		l = append(l, wrong...)
	}
	return append(l, change{"enums that there are not", func(s *api.Schema) { s.E = nil }},
		change{"an enum that there is not", func(s *api.Schema) { *s = schema1(fieldOf(1, "a", api.Enum)) }},
		change{"an enum less", func(s *api.Schema) { s.E = s.E[:1] }},
		change{"a message less", func(s *api.Schema) { s.M = s.M[:2] }},
		change{"no key's kind, and no NoKey", func(s *api.Schema) { s.M[0].F[0] = api.FieldDef{No: 1, Key: -2} }})
}

// P8.2: a schema that may be and one that may not for each of the words.
func TestMay(t *testing.T) {
	holdMay := func(c change, want bool) {
		s := whole()
		c.do(&s)
		before := schemaCopy(s)
		if got := table.May(s); got != want || wantMay(s) != want {
			t.Errorf("%.100s: %v, not %v", c.what, got, want)
		}
		if !alike(s, before) {
			t.Errorf("%.100s: %+v was %+v", c.what, s, before)
		}
	}
	for _, c := range fineChanges() {
		holdMay(c, true)
	}
	for _, c := range wrongChanges() {
		holdMay(c, false)
	}
}

// P8.2: zero values, as their words say: a zero field has no number, and is a map, its keys of the kind Int.
func TestMayOfZeroValues(t *testing.T) {
	for _, c := range []struct {
		s    api.Schema
		want bool
	}{
		{api.Schema{}, false},
		{api.Schema{M: make([]api.MsgDef, 1)}, true},
		{api.Schema{M: make([]api.MsgDef, 2)}, false},
		{api.Schema{M: make([]api.MsgDef, 1), E: make([]api.EnumDef, 1)}, false},
		{api.Schema{E: make([]api.EnumDef, 1)}, false},
		{schema1(api.FieldDef{}), false},
		{schema1(api.FieldDef{No: 1}), true},
		{schema1(api.FieldDef{No: 1, Rep: true}), false},
		{schema1(api.FieldDef{No: 1, One: 1}), false},
		{schema1(api.FieldDef{No: 1, Key: -1}, api.FieldDef{No: 2, Key: -1}), false},
	} {
		if got := table.May(c.s); got != c.want {
			t.Errorf("May(%+v) is %v", c.s, got)
		}
	}
}

// P8.2: all numbers about those that none has.
func TestMayOfNumbers(t *testing.T) {
	for no := -3; no < 20010; no++ {
		if got := table.May(schema1(fieldOf(no, "a", api.Int))); got != isNo(int64(no)) {
			t.Errorf("%d: %v", no, got)
		}
	}
}

// spoilSchema makes one of all changes. It panics where changes ahead left nothing for it to change: then it is none.
func spoilSchema(chance *rand.Rand, s api.Schema, all []change) (out api.Schema) {
	out = schemaCopy(s)
	defer func() { _ = recover() }()
	all[chance.IntN(len(all))].do(&out)
	return out
}

// P8.2: many schemas with some changes, held against the words.
func TestMayByChance(t *testing.T) {
	chance := rand.New(rand.NewPCG(8, 4))
	all, fine := append(fineChanges(), wrongChanges()...), fineChanges()
	told := map[bool]int{}
	for range 20000 {
		s := whole()
		for range chance.IntN(5) {
			s = spoilSchema(chance, s, fine)
		}
		if chance.IntN(3) == 0 {
			s = spoilSchema(chance, s, all)
		}
		want := wantMay(s)
		told[want]++
		if got := table.May(s); got != want {
			t.Fatalf("May(%+v) is %v", s, got)
		}
	}
	if told[false] < 1000 || told[true] < 1000 {
		t.Errorf("%v", told)
	}
}

// holdFields holds Find and By of all fields, and of others, against what P8.2 asks, where no two are alike.
func holdFields(t *testing.T, s api.Schema) {
	t.Helper()
	texts, numbers := []string{"", "a", "A", "new", "\xff", "a "}, []int{math.MinInt, -1, 0, 1, 2, 3, 4, 18999, 19000, 1<<32 + 1, math.MaxInt}
	for _, m := range s.M {
		for _, f := range m.F {
			texts, numbers = append(texts, f.Name, f.Name+"x"), append(numbers, f.No, f.No+1, f.No-1)
		}
	}
	for _, m := range []int{math.MinInt, -1 << 32, -2, -1, 0, 1, 2, 3, len(s.M) - 1, len(s.M), len(s.M) + 1, 1 << 32, math.MaxInt} {
		for _, name := range texts {
			want, ok := wantFound(s, m, func(f api.FieldDef) bool { return f.Name == name })
			if f, is := table.Find(s, m, name); f != want || is != ok {
				t.Fatalf("Find(%+v, %d, %q) is %+v, %v", s, m, name, f, is)
			}
		}
		for _, no := range numbers {
			want, ok := wantFound(s, m, func(f api.FieldDef) bool { return f.No == no })
			if f, is := table.By(s, m, no); f != want || is != ok {
				t.Fatalf("By(%+v, %d, %d) is %+v, %v", s, m, no, f, is)
			}
		}
	}
}

// wantFound is the field of a message of which something is so.
func wantFound(s api.Schema, m int, is func(f api.FieldDef) bool) (api.FieldDef, bool) {
	for i, def := range s.M {
		for _, f := range def.F {
			if i == m && is(f) {
				return f, true
			}
		}
	}
	return api.FieldDef{}, false
}

// P8.2: fields by names and by numbers, of each message, and of none.
func TestFindAndBy(t *testing.T) {
	for _, s := range []api.Schema{
		{}, {M: make([]api.MsgDef, 2)}, whole(), schema1(newFields(30)...),
		// Also of schemas that may not be.
		schema1(newFields(100)...),
		schema1(fieldOf(5, "b", api.Int), fieldOf(3, "", api.Kinds), fieldOf(-4, "a", -1), fieldOf(1<<40, "\xff", 77), fieldOf(0, "z", api.Sub)),
		{M: []api.MsgDef{{Name: "A", F: newFields(1)}, {Name: "A", F: newFields(3)}, {Name: "A"}}},
	} {
		holdFields(t, s)
	}
	if f, ok := table.Find(whole(), 0, "c"); !ok || f != (api.FieldDef{No: 5, Name: "c", Kind: api.Enum, Ref: 1, Key: api.Text}) {
		t.Errorf("%+v, %v", f, ok)
	}
	if f, ok := table.By(whole(), 1, 20000); !ok || f != fieldOf(20000, "a", api.Flag) {
		t.Errorf("%+v, %v", f, ok)
	}
	if f, ok := table.Find(whole(), 1, "b"); ok || f != (api.FieldDef{}) {
		t.Errorf("%+v, %v", f, ok)
	}
	if f, ok := table.By(whole(), 2, 1); ok || f != (api.FieldDef{}) {
		t.Errorf("%+v, %v", f, ok)
	}
	chance := rand.New(rand.NewPCG(8, 5))
	for range 200 {
		s, _, _ := table.Resolve(goodFile(chance))
		holdFields(t, s)
	}
}

// P8.2: messages by names: no enums, and no fields.
func TestRoot(t *testing.T) {
	for name, want := range map[string]int{"A": 0, "B": 1, "C": 2, "E": -1, "F": -1, "a": -1, "": -1, "Z": -1, "int64": -1, "A ": -1, "AB": -1} {
		m, ok := table.Root(whole(), name)
		if ok != (want >= 0) || m != max(want, 0) {
			t.Errorf("Root of %q is %d, %v", name, m, ok)
		}
	}
	for i, name := range names(20, "M") {
		if m, ok := table.Root(api.Schema{M: newMessages(20)}, name); m != i || !ok {
			t.Errorf("Root of %q is %d, %v", name, m, ok)
		}
	}
	for _, s := range []api.Schema{{}, {E: newEnums(3)}} {
		if m, ok := table.Root(s, "N0"); m != 0 || ok {
			t.Errorf("%d, %v", m, ok)
		}
	}
	if m, ok := table.Root(api.Schema{M: []api.MsgDef{{Name: "x"}, {Name: ""}, {Name: "\xff"}}}, ""); m != 1 || !ok {
		t.Errorf("%d, %v", m, ok)
	}
	if m, ok := table.Root(api.Schema{M: newMessages(50)}, "M49"); m != 49 || !ok {
		t.Errorf("%d, %v", m, ok)
	}
}

// P8.2: the plain types, and names that are none.
func TestType(t *testing.T) {
	for _, c := range []struct {
		name string
		kind int
	}{{"int64", 0}, {"sint64", 1}, {"uint32", 2}, {"bool", 3}, {"fixed32", 4}, {"sfixed64", 5}, {"string", 7}, {"bytes", 8}} {
		if kind, ok := table.Type(c.name); kind != c.kind || !ok {
			t.Errorf("Type(%q) is %d, %v", c.name, kind, ok)
		}
		for _, other := range []string{strings.ToUpper(c.name), " " + c.name, c.name + " ", c.name + "\x00", c.name[1:], c.name[:len(c.name)-1], c.name + c.name} {
			want, is := kindOf[other]
			if kind, ok := table.Type(other); kind != want || ok != is {
				t.Errorf("Type(%q) is %d, %v", other, kind, ok)
			}
		}
	}
	for _, name := range []string{"", "a", "A", "int32", "uint64", "sint32", "fixed64", "sfixed32", "float", "double", "enum", "message", "map", "text", "raw", "\xff"} {
		if kind, ok := table.Type(name); kind != 0 || ok {
			t.Errorf("Type(%q) is %d, %v", name, kind, ok)
		}
	}
}

// P8.2: schemas that differ in one of their parts alone are not the same.
func TestEachPartThatDiffers(t *testing.T) {
	for _, c := range []change{
		{"first message's name", func(s *api.Schema) { s.M[0].Name = "a" }},
		{"last message's name", func(s *api.Schema) { s.M[2].Name = "" }},
		{"messages' order", func(s *api.Schema) { s.M[0], s.M[1] = s.M[1], s.M[0] }},
		{"a message less", func(s *api.Schema) { s.M = s.M[:2] }},
		{"a message more", func(s *api.Schema) { s.M = append(s.M, api.MsgDef{}) }},
		{"no messages", func(s *api.Schema) { s.M = nil }},
		{"first field's number", func(s *api.Schema) { s.M[0].F[0].No = 3 }},
		{"high number", func(s *api.Schema) { s.M[0].F[0].No += 1 << 32 }},
		{"last field's number", func(s *api.Schema) { s.M[1].F[1].No-- }},
		{"field's name", func(s *api.Schema) { s.M[0].F[0].Name = "A" }},
		{"last field's name", func(s *api.Schema) { s.M[1].F[1].Name = "" }},
		{"kind", func(s *api.Schema) { s.M[0].F[0].Kind = api.Sint }},
		{"kind that is none", func(s *api.Schema) { s.M[0].F[0].Kind = -1 }},
		{"ref of a message", func(s *api.Schema) { s.M[0].F[1].Ref = 1 }},
		{"ref of an enum", func(s *api.Schema) { s.M[0].F[2].Ref = 0 }},
		{"ref of a number", func(s *api.Schema) { s.M[0].F[0].Ref = 1 }},
		{"repeated", func(s *api.Schema) { s.M[0].F[0].Rep = true }},
		{"not repeated", func(s *api.Schema) { s.M[0].F[1].Rep = false }},
		{"key", func(s *api.Schema) { s.M[0].F[2].Key = api.Int }},
		{"a map", func(s *api.Schema) { s.M[0].F[0].Key = 0 }},
		{"no map", func(s *api.Schema) { s.M[0].F[2].Key = -1 }},
		{"oneof", func(s *api.Schema) { s.M[0].F[3].One = 2 }},
		{"no oneof", func(s *api.Schema) { s.M[0].F[4].One = 0 }},
		{"in a oneof", func(s *api.Schema) { s.M[1].F[0].One = 1 }},
		{"a field less", func(s *api.Schema) { s.M[0].F = s.M[0].F[:4] }},
		{"no fields", func(s *api.Schema) { s.M[1].F = nil }},
		{"a field more", func(s *api.Schema) { s.M[2].F = append(s.M[2].F, api.FieldDef{}) }},
		{"fields' order", func(s *api.Schema) { slices.Reverse(s.M[1].F) }},
		{"first enum's name", func(s *api.Schema) { s.E[0].Name = "e" }},
		{"last enum's name", func(s *api.Schema) { s.E[1].Name = "" }},
		{"enums' order", func(s *api.Schema) { slices.Reverse(s.E) }},
		{"an enum less", func(s *api.Schema) { s.E = s.E[:1] }},
		{"an enum more", func(s *api.Schema) { s.E = append(s.E, api.EnumDef{}) }},
		{"no enums", func(s *api.Schema) { s.E = nil }},
		{"name", func(s *api.Schema) { s.E[0].V[0] = "" }},
		{"last name", func(s *api.Schema) { s.E[1].V[1] = "y" }},
		{"names' order", func(s *api.Schema) { slices.Reverse(s.E[0].V) }},
		{"a name less", func(s *api.Schema) { s.E[0].V = s.E[0].V[:2] }},
		{"a name more", func(s *api.Schema) { s.E[1].V = append(s.E[1].V, "") }},
		{"no names", func(s *api.Schema) { s.E[1].V = nil }},
		{"number", func(s *api.Schema) { s.E[0].N[0] = 1 }},
		{"last number", func(s *api.Schema) { s.E[1].N[1] = 1<<32 + 7 }},
		{"numbers' order", func(s *api.Schema) { slices.Reverse(s.E[0].N) }},
		{"a number less", func(s *api.Schema) { s.E[0].N = s.E[0].N[:2] }},
		{"a number more", func(s *api.Schema) { s.E[1].N = append(s.E[1].N, 0) }},
		{"no numbers", func(s *api.Schema) { s.E[1].N = nil }},
	} {
		s := whole()
		c.do(&s)
		if table.Same(s, whole()) || table.Same(whole(), s) {
			t.Errorf("%s: the same", c.what)
		}
		if !table.Same(s, schemaCopy(s)) {
			t.Errorf("%s: not the same as itself", c.what)
		}
	}
}

// P8.2, R6: lists without elements may be nil or empty; all else that is the same is so.
func TestWhatIsTheSame(t *testing.T) {
	for _, c := range []change{
		{"nothing", func(s *api.Schema) {}},
		{"empty fields", func(s *api.Schema) { s.M[2].F = []api.FieldDef{} }},
		{"a copy", func(s *api.Schema) { *s = schemaCopy(*s) }},
	} {
		s := whole()
		c.do(&s)
		if !table.Same(s, whole()) || !table.Same(whole(), s) {
			t.Errorf("%s: not the same", c.what)
		}
	}
	empty := api.Schema{M: []api.MsgDef{}, E: []api.EnumDef{}}
	if !table.Same(api.Schema{}, empty) || !table.Same(empty, api.Schema{}) {
		t.Error("schemas of nothing are not the same")
	}
	if !table.Same(api.Schema{E: make([]api.EnumDef, 1)}, api.Schema{E: []api.EnumDef{{V: []string{}, N: []int64{}}}}) {
		t.Error("enums of nothing are not the same")
	}
	chance := rand.New(rand.NewPCG(8, 6))
	all := append(fineChanges(), wrongChanges()...)
	for range 5000 {
		s, o := spoilSchema(chance, whole(), all), spoilSchema(chance, whole(), all)
		if table.Same(s, o) != alike(s, o) || !table.Same(s, schemaCopy(s)) {
			t.Fatalf("%+v, %+v", s, o)
		}
	}
}

// R3, R5: what is asked leaves a schema as it was, and tells the same again.
func TestAskedSchemasStay(t *testing.T) {
	s := whole()
	f, _ := table.Find(s, 0, "a")
	f.No, f.Name = 99, "changed"
	f, _ = table.By(s, 0, 1)
	f.No, f.Name = 99, "changed"
	for range 3 {
		if !table.May(s) || !table.Same(s, whole()) {
			t.Error("not as it was")
		}
		table.Root(s, "B")
		holdFields(t, s)
	}
	if !alike(s, whole()) {
		t.Errorf("%+v", s)
	}
}

// P1: what is long is told soon.
func TestLongSchemas(t *testing.T) {
	const long = 1000000
	for _, s := range []api.Schema{
		{M: make([]api.MsgDef, long)},
		{M: make([]api.MsgDef, 1), E: make([]api.EnumDef, long)},
		schema1(make([]api.FieldDef, long)...),
		{M: make([]api.MsgDef, 1), E: []api.EnumDef{{Name: "E", V: make([]string, long), N: make([]int64, long)}}},
		{M: make([]api.MsgDef, 1), E: []api.EnumDef{{Name: "E", V: make([]string, 1), N: make([]int64, long)}}},
		{M: make([]api.MsgDef, 1), E: []api.EnumDef{{Name: "E", V: make([]string, long), N: make([]int64, 1)}}},
	} {
		if table.May(s) || !table.Same(s, s) {
			t.Errorf("of %d, %d", len(s.M), len(s.E))
		}
		table.Find(s, 0, "x")
		table.By(s, 0, 1)
		table.Root(s, "x")
	}
}
