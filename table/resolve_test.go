package table_test

import (
	"fmt"
	"math"
	"math/rand/v2"
	"reflect"
	"slices"
	"strings"
	"testing"

	"truffle/api"
	"truffle/proto"
	"truffle/table"
)

// hold holds what Resolve tells of a file against this, and that the file stays as it was (R3).
func hold(t *testing.T, f api.File, want api.Schema, place int, err api.Errno) {
	t.Helper()
	before := copyOf(f)
	s, at, e := table.Resolve(f)
	if e != err || at != place || !alike(s, want) {
		t.Fatalf("Resolve(%+v) is %+v, %d, %d, not %+v, %d, %d", f, s, at, e, want, place, err)
	}
	if !reflect.DeepEqual(copyOf(f), before) {
		t.Fatalf("%+v was %+v", f, before)
	}
}

// holdWords holds what Resolve tells of a file against what P8.1 asks.
func holdWords(t *testing.T, f api.File) api.Errno {
	t.Helper()
	s, at, err := wantResolved(f)
	hold(t, f, s, at, err)
	return err
}

// parsed is the file of a text that is one.
func parsed(t *testing.T, s string) api.File {
	t.Helper()
	f, _, err := proto.Parse(s)
	if err != api.OK {
		t.Fatalf("%q is no file", s)
	}
	return f
}

// holdText holds what is told of a text against its schema.
func holdText(t *testing.T, s string, want api.Schema) {
	t.Helper()
	hold(t, parsed(t, s), want, 0, api.OK)
	if got, at, err := table.Read(s); err != api.OK || at != 0 || !alike(got, want) {
		t.Fatalf("Read(%q) is %+v, %d, %d, not %+v", s, got, at, err, want)
	}
}

// holdWrong holds what is told of a text against its error, that is told where the @ stands, which is no part of it.
func holdWrong(t *testing.T, s string, want api.Errno) {
	t.Helper()
	place := strings.Index(s, "@")
	s = strings.Replace(s, "@", "", 1)
	hold(t, parsed(t, s), api.Schema{}, place, want)
	if got, at, err := table.Read(s); err != want || at != place || len(got.M) > 0 || len(got.E) > 0 {
		t.Fatalf("Read(%q) is %+v, %d, %d, not %d, %d", s, got, at, err, place, want)
	}
}

// holdFine holds that a text has a schema, as P8.1 asks, that may be.
func holdFine(t *testing.T, s string) {
	t.Helper()
	f := parsed(t, s)
	if err := holdWords(t, f); err != api.OK {
		t.Fatalf("%q is wrong: %d", s, err)
	}
	if got, _, _ := table.Resolve(f); !table.May(got) {
		t.Fatalf("%q may not be", s)
	}
}

// fieldOf is a field as it is resolved, of a kind alone.
func fieldOf(no int, name string, kind int) api.FieldDef {
	return api.FieldDef{No: no, Name: name, Kind: kind, Key: -1}
}

// schema1 is a schema of one message A.
func schema1(l ...api.FieldDef) api.Schema {
	return api.Schema{M: []api.MsgDef{{Name: "A", F: l}}}
}

// P8.1: the example.
func TestExampleOfTheChapter(t *testing.T) {
	holdText(t, "message A { A a = 2; int64 b = 1; }", schema1(fieldOf(1, "b", api.Int), fieldOf(2, "a", api.Sub)))
}

// P8.1: a file of everything, messages and enums in order, fields by rising numbers.
func TestFileOfEverything(t *testing.T) {
	holdText(t, `enum F { X = 0; W = 2147483647; V = -2147483648; U = 1; }
message B { sfixed64 x = 3; F f = 1; repeated E e = 2; }
message A {
  reserved 5, 6;
  repeated B b = 30;
  oneof empty { }
  map<string, E> m = 1;
  oneof o { bool c = 7; bytes d = 2; A a = 18999; }
  map<bool, C> n = 20000;
  oneof p { F g = 536870911; }
  fixed32 h = 4;
  repeated string i = 3;
}
enum E { Z = 0; Y = -1; }
message C { }`, api.Schema{
		M: []api.MsgDef{
			{Name: "B", F: []api.FieldDef{
				fieldOf(1, "f", api.Enum),
				{No: 2, Name: "e", Kind: api.Enum, Ref: 1, Rep: true, Key: -1},
				fieldOf(3, "x", api.Fix8),
			}},
			{Name: "A", F: []api.FieldDef{
				{No: 1, Name: "m", Kind: api.Enum, Ref: 1, Key: api.Text},
				{No: 2, Name: "d", Kind: api.Raw, Key: -1, One: 2},
				{No: 3, Name: "i", Kind: api.Text, Rep: true, Key: -1},
				fieldOf(4, "h", api.Fix4),
				{No: 7, Name: "c", Kind: api.Flag, Key: -1, One: 2},
				{No: 30, Name: "b", Kind: api.Sub, Ref: 0, Rep: true, Key: -1},
				{No: 18999, Name: "a", Kind: api.Sub, Ref: 1, Key: -1, One: 2},
				{No: 20000, Name: "n", Kind: api.Sub, Ref: 2, Key: api.Flag},
				{No: 536870911, Name: "g", Kind: api.Enum, Ref: 0, Key: -1, One: 3},
			}},
			{Name: "C"},
		},
		E: []api.EnumDef{
			{Name: "F", V: []string{"X", "W", "V", "U"}, N: []int64{0, 1<<31 - 1, -1 << 31, 1}},
			{Name: "E", V: []string{"Z", "Y"}, N: []int64{0, -1}},
		},
	})
}

// P8.1: each plain type, of a field, of a repeated one, of a map, and in a oneof.
func TestEachPlainType(t *testing.T) {
	for _, name := range plainNames {
		kind := kindOf[name]
		holdText(t, "message A { "+name+" a = 1; repeated "+name+" b = 2; map<int64, "+name+"> c = 3; oneof o { "+name+" d = 4; } }", schema1(
			fieldOf(1, "a", kind),
			api.FieldDef{No: 2, Name: "b", Kind: kind, Rep: true, Key: -1},
			api.FieldDef{No: 3, Name: "c", Kind: kind, Key: api.Int},
			api.FieldDef{No: 4, Name: "d", Kind: kind, Key: -1, One: 1}))
	}
}

// P8.1: each type of keys; bytes, messages, enums, and what is none.
func TestEachTypeOfKeys(t *testing.T) {
	for _, name := range plainNames {
		s := "message A { @map<" + name + ", A> a = 1; }"
		if name == "bytes" {
			holdWrong(t, s, api.ErrType)
			continue
		}
		holdText(t, strings.Replace(s, "@", "", 1), schema1(api.FieldDef{No: 1, Name: "a", Kind: api.Sub, Key: kindOf[name]}))
	}
	for _, name := range []string{"A", "B", "E", "X", "int32", "uint64", "double", "Int64", "map", "enum", "STRING"} {
		holdWrong(t, "message A { @map<"+name+", bool> a = 1; } message B { } enum E { Z = 0; }", api.ErrType)
	}
}

// P8.1: types that are none, of a field, of a repeated one, of a map, and in a oneof.
func TestTypesThatAreNone(t *testing.T) {
	for _, name := range []string{"X", "a", "o", "Z", "int32", "uint64", "sint32", "fixed64", "sfixed32", "float", "double", "Int64", "map", "repeated", "message", "B1", "b"} {
		end := "} message B { } enum E { Z = 0; }"
		if name != "repeated" {
			holdWrong(t, "message A { int64 b = 9; @"+name+" a = 1; oneof o { } "+end, api.ErrNone)
		}
		holdWrong(t, "message A { int64 b = 9; @repeated "+name+" a = 1; "+end, api.ErrNone)
		holdWrong(t, "message A { int64 b = 9; @map<bool, "+name+"> a = 1; "+end, api.ErrNone)
		holdWrong(t, "message A { int64 b = 9; oneof o { @"+name+" a = 1; } "+end, api.ErrNone)
	}
}

// P8.1: types that stand ahead, behind, and are the message itself.
func TestTypesOfAnyPlace(t *testing.T) {
	holdText(t, "enum D { Z = 0; } message A { C c = 4; B b = 3; A a = 2; D d = 1; E e = 5; } message B { A a = 1; } message C { } enum E { Z = 0; }", api.Schema{
		M: []api.MsgDef{
			{Name: "A", F: []api.FieldDef{
				fieldOf(1, "d", api.Enum), fieldOf(2, "a", api.Sub),
				{No: 3, Name: "b", Kind: api.Sub, Ref: 1, Key: -1},
				{No: 4, Name: "c", Kind: api.Sub, Ref: 2, Key: -1},
				{No: 5, Name: "e", Kind: api.Enum, Ref: 1, Key: -1},
			}},
			{Name: "B", F: []api.FieldDef{fieldOf(1, "a", api.Sub)}}, {Name: "C"},
		},
		E: []api.EnumDef{{Name: "D", V: []string{"Z"}, N: []int64{0}}, {Name: "E", V: []string{"Z"}, N: []int64{0}}},
	})
}

// messages and enums are texts of n.
func messages(n int) string {
	return "message " + strings.Join(names(n, "M"), " { } message ") + " { } "
}

func enums(n int) string {
	return "enum " + strings.Join(names(n, "E"), " { Z = 0; } enum ") + " { Z = 0; } "
}

// P8.1: how many messages and enums there may be.
func TestHowManyMessagesAndEnums(t *testing.T) {
	for _, s := range []string{"@", "@ // none", "@enum E { Z = 0; }", "@enum E { }", "@ " + enums(20), "@ " + enums(21), "@ " + messages(21), "@ " + messages(22), "@ " + messages(1) + enums(21), "@ " + messages(20) + enums(21), "@ " + messages(21) + enums(20)} {
		holdWrong(t, s, api.ErrLong)
	}
	for _, s := range []string{messages(1), messages(2), messages(19), messages(20), messages(1) + enums(1), enums(19) + messages(1), messages(1) + enums(20), messages(20) + enums(20)} {
		holdFine(t, s)
	}
	hold(t, api.File{}, api.Schema{}, 0, api.ErrLong)
	hold(t, api.File{M: []api.MsgSyn{}, E: []api.EnumSyn{}}, api.Schema{}, 0, api.ErrLong)
	hold(t, api.File{M: make([]api.MsgSyn, 21)}, api.Schema{}, 0, api.ErrLong)
	hold(t, api.File{M: make([]api.MsgSyn, 1), E: make([]api.EnumSyn, 21)}, api.Schema{}, 0, api.ErrLong)
}

// P8.1: a name that is a plain type's, or that of one ahead: messages stand ahead of all enums.
func TestNamesOfMessagesAndEnums(t *testing.T) {
	for _, name := range plainNames {
		holdWrong(t, "@message "+name+" { }", api.ErrForm)
		holdWrong(t, "message A { } @message "+name+" { }", api.ErrForm)
		holdWrong(t, "message A { } @enum "+name+" { Z = 0; }", api.ErrForm)
		holdWrong(t, "enum A { Z = 0; } message B { } @enum "+name+" { Z = 0; }", api.ErrForm)
	}
	holdWrong(t, "message A { } @message A { }", api.ErrForm)
	holdWrong(t, "message A { } message B { } @message A { } message B { }", api.ErrForm)
	holdWrong(t, "message A { } message B { } message C { } @message B { }", api.ErrForm)
	holdWrong(t, "message A { } @enum A { Z = 0; }", api.ErrForm)
	holdWrong(t, "@enum A { Z = 0; } message A { }", api.ErrForm)
	holdWrong(t, "message A { } enum E { Z = 0; } @enum E { Z = 0; }", api.ErrForm)
	holdWrong(t, "enum E { Z = 0; } message A { } enum F { Z = 0; } message B { } @enum E { Z = 0; }", api.ErrForm)
	holdWrong(t, "enum E { Z = 0; } message A { } message B { } @enum B { Z = 0; }", api.ErrForm)
	for _, name := range []string{"a", "int32", "Int64", "bool_", "message", "enum", "map", "_", "E", "Z"} {
		holdFine(t, "message A { } message "+name+" { }")
		holdFine(t, "message A { } enum "+name+" { Z = 0; }")
	}
}

// textOfFields are n fields.
func textOfFields(n int) string {
	out := ""
	for i := range n {
		out += fmt.Sprintf("int64 a%d = %d; ", i, n-i)
	}
	return out
}

// P8.1: how many fields, oneofs, and names there may be, also in what is not first.
func TestHowManyFieldsOneofsAndNames(t *testing.T) {
	ones := func(n int) string { return strings.Join(names(n, "oneof o"), " { } ") + " { } " }
	values := func(n int) string {
		out := ""
		for i := range n {
			out += fmt.Sprintf("v%d = %d; ", i, -i)
		}
		return out
	}
	for _, n := range []int{0, 1, 2, 29, 30} {
		holdFine(t, "message A { "+textOfFields(n)+"}")
		holdFine(t, "message A { } message B { "+textOfFields(n)+"}")
		if n > 0 {
			holdFine(t, "message A { "+ones(n)+"} message B { "+ones(n)+textOfFields(n)+"}")
			holdFine(t, "message A { } enum E { "+values(n)+"} enum F { "+values(n)+"}")
		}
	}
	for _, n := range []int{31, 32, 60} {
		holdWrong(t, "@message A { "+textOfFields(n)+"}", api.ErrLong)
		holdWrong(t, "message A { } @message B { "+textOfFields(n)+"}", api.ErrLong)
		holdWrong(t, "message A { } enum E { Z = 0; } message B { } @message C { "+ones(n)+"}", api.ErrLong)
		holdWrong(t, "@message A { "+ones(n)+"}", api.ErrLong)
		holdWrong(t, "message A { } @enum E { "+values(n)+"}", api.ErrLong)
		holdWrong(t, "enum F { Z = 0; } message A { } @enum E { "+values(n)+"}", api.ErrLong)
	}
	holdWrong(t, "message A { } @enum E { }", api.ErrLong)
	holdWrong(t, "enum F { Z = 0; } message A { } @enum E { } enum G { }", api.ErrLong)
	holdFine(t, "message A { reserved "+strings.Join(strings.Split(strings.Repeat("1", 100), ""), ", ")+"; int64 a = 2; }")
}

// P8.1: a field's name that is one ahead of it, or a oneof's, wherever that stands.
func TestNamesOfFields(t *testing.T) {
	holdWrong(t, "message A { int64 a = 1; @bool a = 2; }", api.ErrForm)
	holdWrong(t, "message A { int64 a = 2; @bool a = 1; bool a = 3; }", api.ErrForm)
	holdWrong(t, "message A { int64 a = 1; int64 b = 2; int64 c = 3; @bool b = 4; }", api.ErrForm)
	holdWrong(t, "message A { int64 a = 1; oneof o { @bool a = 2; } }", api.ErrForm)
	holdWrong(t, "message A { oneof o { bool a = 2; } oneof p { @bool a = 1; } }", api.ErrForm)
	holdWrong(t, "message A { oneof o { bool a = 2; } @repeated bool a = 1; }", api.ErrForm)
	holdWrong(t, "message A { repeated bool a = 2; @map<bool, bool> a = 1; }", api.ErrForm)
	holdWrong(t, "message A { @int64 o = 1; oneof o { bool b = 2; } }", api.ErrForm)
	holdWrong(t, "message A { oneof o { bool b = 2; } @int64 o = 1; }", api.ErrForm)
	holdWrong(t, "message A { oneof o { @bool o = 2; } }", api.ErrForm)
	holdWrong(t, "message A { oneof o { } @bool o = 2; }", api.ErrForm)
	holdWrong(t, "message A { oneof o { @bool p = 2; } oneof p { } }", api.ErrForm)
	holdWrong(t, "message A { oneof o { } oneof p { } oneof q { } @map<bool, bool> q = 2; }", api.ErrForm)
	holdWrong(t, "message B { bool a = 1; } message A { int64 a = 1; @bool a = 2; }", api.ErrForm)
	holdFine(t, "message A { bool A = 1; bool B = 2; bool E = 3; bool int64 = 4; bool a = 5; bool Z = 6; bool _ = 7; } message B { bool a = 1; oneof o { bool A = 2; } } message C { bool o = 1; oneof a { } } enum E { Z = 0; }")
	holdFine(t, "message A { oneof o { bool a = 1; } oneof o { bool b = 2; } }")
}

// P8.1: numbers of fields, at all edges, wherever the field stands.
func TestNumbersOfFields(t *testing.T) {
	for _, no := range goodNumbers {
		for _, s := range []string{"message A { int64 a = %d; }", "message A { int64 b = 5; oneof o { int64 a = %d; } }", "message A { repeated int64 a = %d; }", "message A { map<bool, bool> a = %d; }", "message A { reserved 5; } message B { int64 a = %d; }"} {
			holdFine(t, fmt.Sprintf(s, no))
		}
	}
	for _, no := range badNumbers {
		for _, s := range []string{"message A { @int64 a = %d; }", "message A { int64 b = 5; oneof o { @int64 a = %d; } }", "message A { @repeated int64 a = %d; }", "message A { @map<bool, bool> a = %d; }", "message A { int64 b = 1; } message B { int64 a = 2; @int64 b = %d; int64 a = 0; }"} {
			holdWrong(t, fmt.Sprintf(s, no), api.ErrForm)
		}
	}
	for no := int64(18990); no < 20010; no++ {
		f := api.File{M: []api.MsgSyn{{Name: "A", F: []api.FieldSyn{{Type: "bool", Name: "a", No: no, At: 3}}}}}
		if err := holdWords(t, f); (err == api.OK) != (no < 19000 || no > 19999) {
			t.Errorf("%d: %d", no, err)
		}
	}
}

// P8.1: a number that is that of a field ahead, or a reserved one, wherever that stands.
func TestNumbersThatAreTaken(t *testing.T) {
	holdWrong(t, "message A { int64 a = 1; @bool b = 1; }", api.ErrForm)
	holdWrong(t, "message A { int64 a = 3; int64 b = 1; int64 c = 2; @bool d = 1; bool e = 2; }", api.ErrForm)
	holdWrong(t, "message A { oneof o { int64 a = 1; } oneof p { @bool b = 1; } }", api.ErrForm)
	holdWrong(t, "message A { repeated bool a = 536870911; @map<bool, bool> b = 536870911; }", api.ErrForm)
	holdWrong(t, "message A { @int64 a = 1; reserved 1; }", api.ErrForm)
	holdWrong(t, "message A { reserved 1; @int64 a = 1; }", api.ErrForm)
	holdWrong(t, "message A { reserved 2, 3, 1; int64 b = 4; @int64 a = 1; }", api.ErrForm)
	holdWrong(t, "message A { reserved 2; int64 b = 4; @int64 a = 3; reserved 5; reserved 6, 3, 3; }", api.ErrForm)
	holdWrong(t, "message A { reserved 7; oneof o { @repeated a = 7; } }", api.ErrForm)
	holdWrong(t, "message B { int64 a = 1; } message A { int64 a = 1; @int64 b = 1; }", api.ErrForm)
	holdFine(t, "message A { int64 a = 1; reserved 2; } message B { int64 a = 2; reserved 1; } enum E { Z = 0; Y = 1; }")
	holdFine(t, "message A { reserved 0, -1, 19000, 9223372036854775807, 4294967297, 1, 1, 536870912; int64 a = 2; }")
}

// oneField is a file of a message with two oneofs, and a field at 7.
func oneField(x api.FieldSyn) api.File {
	x.Name, x.No, x.At = "a", 1, 7
	return api.File{M: []api.MsgSyn{{Name: "A", Ones: []string{"o", "p"}, F: []api.FieldSyn{x}, At: 3}}}
}

// P8.1: a oneof's number, from none to how many there are, and beyond.
func TestNumbersOfOneofs(t *testing.T) {
	for _, one := range []int{0, 1, 2} {
		hold(t, oneField(api.FieldSyn{Type: "bool", One: one}), schema1(api.FieldDef{No: 1, Name: "a", Kind: api.Flag, Key: -1, One: one}), 0, api.OK)
	}
	for _, one := range []int{-1, -2, 3, 4, 30, 31, 1 << 32, 1<<32 + 1, math.MaxInt, math.MinInt} {
		hold(t, oneField(api.FieldSyn{Type: "bool", One: one}), api.Schema{}, 7, api.ErrForm)
		hold(t, oneField(api.FieldSyn{Type: "x", Key: "y", One: one}), api.Schema{}, 7, api.ErrForm)
	}
	f := oneField(api.FieldSyn{Type: "bool", One: 1})
	f.M = append(f.M, api.MsgSyn{Name: "B", Ones: []string{"o"}, F: []api.FieldSyn{{Type: "bool", Name: "b", No: 1, One: 2, At: 9}}})
	hold(t, f, api.Schema{}, 9, api.ErrForm)
	f.M[1].F[0].One = 1
	f.M[0].Ones = nil
	hold(t, f, api.Schema{}, 7, api.ErrForm)
	most := api.MsgSyn{Name: "A", Ones: names(30, "o"), F: []api.FieldSyn{{Type: "bool", Name: "a", No: 1, One: 30}}}
	hold(t, api.File{M: []api.MsgSyn{most}}, schema1(api.FieldDef{No: 1, Name: "a", Kind: api.Flag, Key: -1, One: 30}), 0, api.OK)
	most.F[0].One = 31
	hold(t, api.File{M: []api.MsgSyn{most}}, api.Schema{}, 0, api.ErrForm)
}

// P8.1: repeated, a map, in a oneof: none, one, two and all of these.
func TestTwoOfThree(t *testing.T) {
	for _, rep := range []bool{false, true} {
		for _, key := range []string{"", "string"} {
			for _, one := range []int{0, 1, 2} {
				x := api.FieldSyn{Type: "A", Key: key, Rep: rep, One: one}
				if many(rep, key != "", one > 0) >= 2 {
					hold(t, oneField(x), api.Schema{}, 7, api.ErrForm)
					continue
				}
				want := api.FieldDef{No: 1, Name: "a", Kind: api.Sub, Rep: rep, Key: -1, One: one}
				if key != "" {
					want.Key = api.Text
				}
				hold(t, oneField(x), schema1(want), 0, api.OK)
			}
		}
	}
	hold(t, oneField(api.FieldSyn{Type: "x", Key: "bytes", Rep: true}), api.Schema{}, 7, api.ErrForm)
	hold(t, oneField(api.FieldSyn{Type: "x", Key: "bytes", One: 1}), api.Schema{}, 7, api.ErrForm)
	hold(t, oneField(api.FieldSyn{Type: "x", Rep: true, One: 2}), api.Schema{}, 7, api.ErrForm)
}

// P8.1: an enum's names and numbers twice, its first number, and numbers at both ends and beyond.
func TestNamesOfEnums(t *testing.T) {
	for _, s := range []string{
		"@Z = 1;", "@Z = -1;", "@Z = 1; Y = 0;", "@Z = 2147483648; Z = 0;", "@Z = 9223372036854775807;",
		"Z = 0; @Y = 0;", "Z = 0; @Y = 0; Y = 1;", "Z = 0; Y = 1; @X = 0;", "Z = 0; Y = 1; X = 2; @W = 1;", "Z = 0; Y = -1; @X = -1;",
		"Z = 0; @Z = 1;", "Z = 0; Y = 1; @Z = 2; Y = 3;", "Z = 0; Y = 1; X = 2; @Y = 3;", "Z = 0; @Z = 0;",
		"Z = 0; @Y = 2147483648;", "Z = 0; @Y = -2147483649;", "Z = 0; @Y = 4294967296;", "Z = 0; @Y = 4294967297;", "Z = 0; @Y = -9223372036854775808;", "Z = 0; Y = 1; @X = 9223372036854775807;",
	} {
		holdWrong(t, "message A { int64 a = 1; } enum E { "+s+" }", api.ErrForm)
		holdWrong(t, "enum D { Z = 0; Y = 1; } enum E { "+s+" } message A { } enum F { Z = 1; }", api.ErrForm)
	}
	for _, s := range []string{"Z = 0;", "Z = 0; Y = 1;", "Z = 0; Y = -1; X = 1;", "Z = 0; Y = 2147483647; X = -2147483648; W = 2147483646; V = -2147483647;", "Z = 0; z = 3; A = 2; E = 1; int64 = 7; F = 6;"} {
		holdFine(t, "message A { } enum E { "+s+" } enum F { "+s+" }")
	}
}

// wrong is a change of everything that makes it wrong, and where that is told.
type wrong struct {
	what   string
	change func(f *api.File)
	at     int
	err    api.Errno
}

// everything is a file that has a schema, all in it at places of their own.
func everything() api.File {
	return api.File{
		M: []api.MsgSyn{
			{Name: "A", Ones: []string{"o"}, Res: []int64{9}, At: 100, F: []api.FieldSyn{
				{Type: "B", Name: "a", No: 2, At: 110}, {Type: "E", Key: "bool", Name: "b", No: 1, At: 120},
			}},
			{Name: "B", Ones: []string{"o"}, Res: []int64{9}, At: 200, F: []api.FieldSyn{
				{Type: "A", Name: "a", No: 1, One: 1, At: 210}, {Type: "bool", Name: "b", No: 2, At: 220},
			}},
		},
		E: []api.EnumSyn{
			{Name: "E", At: 300, V: []api.ValSyn{{Name: "Z", At: 310}, {Name: "Y", N: 1, At: 320}}},
			{Name: "F", At: 400, V: []api.ValSyn{{Name: "Z", At: 410}, {Name: "Y", N: 1, At: 420}}},
		},
	}
}

// wrongHeads are changes of messages and enums, in the order in which they are told.
func wrongHeads() []wrong {
	moreFields := func(m *api.MsgSyn) {
		for i, name := range names(31, "more") {
			m.F = append(m.F, api.FieldSyn{Type: "bool", Name: name, No: int64(30 + i), At: 190})
		}
	}
	moreNames := func(e *api.EnumSyn) {
		for i, name := range names(31, "more") {
			e.V = append(e.V, api.ValSyn{Name: name, N: int64(30 + i), At: 390})
		}
	}
	return []wrong{
		{"too many messages", func(f *api.File) {
			for _, name := range names(19, "N") {
				f.M = append(f.M, api.MsgSyn{Name: name, At: 290})
			}
		}, 0, api.ErrLong},
		{"too many enums", func(f *api.File) {
			for _, name := range names(19, "N") {
				f.E = append(f.E, api.EnumSyn{Name: name, At: 490, V: []api.ValSyn{{Name: "Z"}}})
			}
		}, 0, api.ErrLong},
		{"plain first message", func(f *api.File) { f.M[0].Name = "bytes" }, 100, api.ErrForm},
		{"too many fields in the first message", func(f *api.File) { moreFields(&f.M[0]) }, 100, api.ErrLong},
		{"too many oneofs in the first message", func(f *api.File) { f.M[0].Ones = names(31, "p") }, 100, api.ErrLong},
		{"second message as the first", func(f *api.File) { f.M[1].Name = f.M[0].Name }, 200, api.ErrForm},
		{"too many oneofs in the second message", func(f *api.File) { f.M[1].Ones = names(31, "p") }, 200, api.ErrLong},
		{"too many fields in the second message", func(f *api.File) { moreFields(&f.M[1]) }, 200, api.ErrLong},
		{"first enum as a message", func(f *api.File) { f.E[0].Name = f.M[1].Name }, 300, api.ErrForm},
		{"first enum without names", func(f *api.File) { f.E[0].V = nil }, 300, api.ErrLong},
		{"first enum with too many", func(f *api.File) { moreNames(&f.E[0]) }, 300, api.ErrLong},
		{"second enum as the first", func(f *api.File) { f.E[1].Name = f.E[0].Name }, 400, api.ErrForm},
		{"second enum with too many", func(f *api.File) { moreNames(&f.E[1]) }, 400, api.ErrLong},
		{"second enum without names", func(f *api.File) { f.E[1].V = nil }, 400, api.ErrLong},
	}
}

// wrongFields are changes of a field, in the order in which they are told.
func wrongFields(m, i, at int) []wrong {
	l := []wrong{
		{"as a oneof", func(f *api.File) { f.M[m].F[i].Name = "o" }, at, api.ErrForm},
		{"number", func(f *api.File) { f.M[m].F[i].No = 19999 }, at, api.ErrForm},
		{"reserved number", func(f *api.File) { f.M[m].F[i].No = 9 }, at, api.ErrForm},
		{"oneof below 0", func(f *api.File) { f.M[m].F[i].One = -1 }, at, api.ErrForm},
		{"oneof beyond", func(f *api.File) { f.M[m].F[i].One = 2 }, at, api.ErrForm},
		{"two of three", func(f *api.File) { f.M[m].F[i].Rep, f.M[m].F[i].One = true, 1 }, at, api.ErrForm},
	}
	if i > 0 {
		l = append(l,
			wrong{"name ahead", func(f *api.File) { f.M[m].F[i].Name = "a" }, at, api.ErrForm},
			wrong{"number ahead", func(f *api.File) { f.M[m].F[i].No = f.M[m].F[0].No }, at, api.ErrForm})
	}
	return append(l,
		wrong{"no key's kind", func(f *api.File) { f.M[m].F[i].Key, f.M[m].F[i].One = "bytes", 0 }, at, api.ErrType},
		wrong{"no type of keys", func(f *api.File) { f.M[m].F[i].Key, f.M[m].F[i].One = "A", 0 }, at, api.ErrType},
		wrong{"no type", func(f *api.File) { f.M[m].F[i].Type = "Z" }, at, api.ErrNone})
}

// wrongValues are changes of an enum, in the order in which they are told.
func wrongValues(e, at int) []wrong {
	return []wrong{
		{"first number", func(f *api.File) { f.E[e].V[0].N = 5 }, at, api.ErrForm},
		{"name ahead", func(f *api.File) { f.E[e].V[1].Name = "Z" }, at + 10, api.ErrForm},
		{"number ahead", func(f *api.File) { f.E[e].V[1].N = f.E[e].V[0].N }, at + 10, api.ErrForm},
		{"number beyond", func(f *api.File) { f.E[e].V[1].N = 1 << 31 }, at + 10, api.ErrForm},
	}
}

// P8.1, R2: each change alone is told; of each two the one that is named first, and where.
func TestWhichOfTwoIsTold(t *testing.T) {
	all := slices.Concat(wrongHeads(), wrongFields(0, 0, 110), wrongFields(0, 1, 120), wrongFields(1, 0, 210), wrongFields(1, 1, 220), wrongValues(0, 310), wrongValues(1, 410))
	if err := holdWords(t, everything()); err != api.OK {
		t.Fatalf("everything is wrong: %d", err)
	}
	for i, first := range all {
		f := everything()
		first.change(&f)
		hold(t, f, api.Schema{}, first.at, first.err)
		f.M = nil
		hold(t, f, api.Schema{}, 0, api.ErrLong)
		for _, other := range all[i+1:] {
			f := everything()
			// That which is told is changed last, so that it stands.
			other.change(&f)
			first.change(&f)
			if _, at, err := table.Resolve(f); at != first.at || err != first.err {
				t.Errorf("%s at %d, and %s at %d: %d, %d", first.what, first.at, other.what, other.at, at, err)
			}
			holdWords(t, f)
		}
	}
}

// P8.1: of one field the name and number are told ahead of its keys, these ahead of its type, in texts.
func TestOrderWithinAField(t *testing.T) {
	holdWrong(t, "message A { @B a = 0; }", api.ErrForm)
	holdWrong(t, "message A { @map<bytes, B> a = 0; }", api.ErrForm)
	holdWrong(t, "message A { @map<bytes, B> a = 1; }", api.ErrType)
	holdWrong(t, "message A { @map<X, B> a = 1; }", api.ErrType)
	holdWrong(t, "message A { @map<string, B> a = 1; }", api.ErrNone)
	holdWrong(t, "message A { @B a = 1; map<bytes, A> b = 2; int64 a = 0; }", api.ErrNone)
	holdWrong(t, "message A { @map<bytes, A> b = 2; B a = 1; int64 a = 0; }", api.ErrType)
	holdWrong(t, "message A { B a = 1; } @message A { }", api.ErrForm)
	holdWrong(t, "message A { B a = 1; } @enum E { }", api.ErrLong)
	holdWrong(t, "enum E { Z = 1; } message A { @B a = 1; }", api.ErrNone)
	holdWrong(t, "message A { A z = 5; @B a = 4; A z = 3; }", api.ErrNone)
}

// P8.1: names of any texts, as no text has them.
func TestNamesOfAnyTexts(t *testing.T) {
	for _, name := range []string{"", " ", "\x00", "\xff\xfe", "é", "a b", "int64 ", "}", strings.Repeat("n", 9000)} {
		f := api.File{
			M: []api.MsgSyn{{Name: name, F: []api.FieldSyn{{Type: name, Name: name, No: 1}}}, {Name: name + "2", Ones: []string{name}}},
			E: []api.EnumSyn{{Name: name + "3", V: []api.ValSyn{{Name: name}}}},
		}
		hold(t, f, api.Schema{
			M: []api.MsgDef{{Name: name, F: []api.FieldDef{fieldOf(1, name, api.Sub)}}, {Name: name + "2"}},
			E: []api.EnumDef{{Name: name + "3", V: []string{name}, N: []int64{0}}},
		}, 0, api.OK)
		f.M[1].Name = name
		hold(t, f, api.Schema{}, 0, api.ErrForm)
	}
	hold(t, api.File{M: make([]api.MsgSyn, 1)}, api.Schema{M: make([]api.MsgDef, 1)}, 0, api.OK)
	hold(t, api.File{M: make([]api.MsgSyn, 2)}, api.Schema{}, 0, api.ErrForm)
	hold(t, api.File{M: make([]api.MsgSyn, 1), E: make([]api.EnumSyn, 1)}, api.Schema{}, 0, api.ErrForm)
	hold(t, api.File{M: []api.MsgSyn{{Name: "A", F: make([]api.FieldSyn, 1), At: 4}}}, api.Schema{}, 0, api.ErrForm)
}

// P8.1: places are told as they are, whatever they are.
func TestAnyPlaces(t *testing.T) {
	for _, at := range []int{0, -1, 5, math.MaxInt, math.MinInt} {
		hold(t, api.File{M: []api.MsgSyn{{Name: "bool", At: at}}}, api.Schema{}, at, api.ErrForm)
		hold(t, api.File{M: []api.MsgSyn{{Name: "A", At: 1, F: []api.FieldSyn{{Type: "x", Name: "a", No: 1, At: at}}}}}, api.Schema{}, at, api.ErrNone)
		hold(t, api.File{M: []api.MsgSyn{{At: at}}, E: []api.EnumSyn{{Name: "E", V: []api.ValSyn{{At: at, N: 2}}}}}, api.Schema{}, at, api.ErrForm)
		hold(t, api.File{M: []api.MsgSyn{{At: 3}}, E: []api.EnumSyn{{Name: "E", At: at}}}, api.Schema{}, at, api.ErrLong)
	}
}

// P8.1, P8.3: files made by chance, that have a schema, and with some changes; what is resolved may be.
func TestFilesByChance(t *testing.T) {
	chance := rand.New(rand.NewPCG(8, 1))
	told := map[api.Errno]int{}
	for range 40000 {
		f := goodFile(chance)
		changes := chance.IntN(4)
		for range changes {
			f = spoil(chance, f)
		}
		err := holdWords(t, f)
		told[err]++
		s, _, _ := table.Resolve(f)
		if err == api.OK && (!table.May(s) || !wantMay(s)) || err != api.OK && changes == 0 {
			t.Fatalf("%+v: %d", f, err)
		}
	}
	for _, err := range []api.Errno{api.OK, api.ErrLong, api.ErrForm, api.ErrType, api.ErrNone} {
		if told[err] < 500 {
			t.Errorf("%d was told %d times", err, told[err])
		}
	}
}

// P8.2: of a text that is no file the error, and place, of Parse.
func TestReadOfTextsThatAreNoFiles(t *testing.T) {
	for _, s := range []string{"message A", "message", "x", "message A { int64 a 1; }", "message A { } enum", "message A { } \"", "message A { } $", "message A { int64 a = 01; }", strings.Repeat(" ", 5001), strings.Repeat("a ", 1001), "message A { repeated map<bool, bool> a = 1; }", "message bool { ", "enum E { Z = 1; } ;"} {
		_, place, want := proto.Parse(s)
		if want == api.OK {
			t.Fatalf("%.50q is a file", s)
		}
		if got, at, err := table.Read(s); err != want || at != place || len(got.M) > 0 || len(got.E) > 0 {
			t.Errorf("Read(%.50q) is %+v, %d, %d, not %d, %d", s, got, at, err, place, want)
		}
	}
	if _, at, err := table.Read("message A"); at != 9 || err != api.ErrForm {
		t.Errorf("%d, %d", at, err)
	}
	if _, at, err := table.Read(strings.Repeat(" ", 5001)); at != 0 || err != api.ErrLong {
		t.Errorf("%d, %d", at, err)
	}
	if _, at, err := table.Read(strings.Repeat(" ", 4988) + "message A {}"); at != 0 || err != api.OK {
		t.Errorf("%d, %d", at, err)
	}
}

// P8.2: Read of files that are printed.
func TestReadOfFilesByChance(t *testing.T) {
	chance := rand.New(rand.NewPCG(8, 2))
	for range 4000 {
		f := goodFile(chance)
		for range chance.IntN(3) {
			f = spoil(chance, f)
		}
		s := proto.Print(f)
		g, place, want := proto.Parse(s)
		var schema api.Schema
		if want == api.OK {
			schema, place, want = wantResolved(g)
		}
		if got, at, err := table.Read(s); err != want || at != place || !alike(got, schema) {
			t.Fatalf("Read(%q) is %+v, %d, %d, not %+v, %d, %d", s, got, at, err, schema, place, want)
		}
	}
}

// permuted hands on a list in every order.
func permuted(l []string, n int, on func(l []string)) {
	if n == 0 {
		on(l)
		return
	}
	for i := range n {
		l[i], l[n-1] = l[n-1], l[i]
		permuted(l, n-1, on)
		l[i], l[n-1] = l[n-1], l[i]
	}
}

// P8.3: fields in every order are the same schema.
func TestOrderOfFields(t *testing.T) {
	want := schema1(
		fieldOf(1, "d", api.Int),
		api.FieldDef{No: 2, Name: "c", Kind: api.Flag, Key: -1, One: 1},
		api.FieldDef{No: 3, Name: "e", Kind: api.Raw, Rep: true, Key: -1},
		api.FieldDef{No: 20000, Name: "b", Kind: api.Sub, Key: api.Text},
		fieldOf(536870911, "a", api.Uint))
	items := []string{"int64 d = 1; ", "oneof o { bool c = 2; } ", "repeated bytes e = 3; ", "map<string, A> b = 20000; ", "uint32 a = 536870911; ", "reserved 4; "}
	permuted(items, len(items), func(l []string) { holdText(t, "message A { "+strings.Join(l, "")+"}", want) })
	chance := rand.New(rand.NewPCG(8, 3))
	for range 2000 {
		f := goodFile(chance)
		s, _, err := table.Resolve(f)
		for _, m := range f.M {
			chance.Shuffle(len(m.F), func(i, k int) { m.F[i], m.F[k] = m.F[k], m.F[i] })
		}
		if other, _, e := table.Resolve(f); err != api.OK || e != api.OK || !table.Same(s, other) || !alike(s, other) {
			t.Fatalf("%+v, not %+v", other, s)
		}
	}
}

// R3: what is told shares nothing with the file, nor with what is told again.
func TestResolvedOnItsOwn(t *testing.T) {
	f := everything()
	s, _, _ := table.Resolve(f)
	want := schemaCopy(s)
	again, _, _ := table.Resolve(f)
	f.M[0].Name, f.M[0].F[0].Name, f.M[0].F[1].No, f.M[1].F[0].Type = "x", "x", 77, "x"
	f.M[0].Ones[0], f.M[0].Res[0], f.E[0].Name, f.E[0].V[0].Name, f.E[0].V[1].N, f.E[1] = "x", 1, "x", "x", 9, api.EnumSyn{}
	if !alike(s, want) || !alike(again, want) {
		t.Errorf("%+v was %+v", s, want)
	}
	f = everything()
	for i := range s.M {
		clear(s.M[i].F)
	}
	for i := range s.E {
		clear(s.E[i].V)
		clear(s.E[i].N)
	}
	clear(s.M)
	clear(s.E)
	if !alike(again, want) || !reflect.DeepEqual(copyOf(f), copyOf(everything())) {
		t.Errorf("%+v was %+v", again, want)
	}
	if err := holdWords(t, everything()); err != api.OK {
		t.Errorf("%d", err)
	}
}

// P1: what is long is told soon, and none panics.
func TestLongFiles(t *testing.T) {
	const long = 1000000
	hold(t, api.File{M: make([]api.MsgSyn, long)}, api.Schema{}, 0, api.ErrLong)
	hold(t, api.File{M: make([]api.MsgSyn, 1), E: make([]api.EnumSyn, long)}, api.Schema{}, 0, api.ErrLong)
	hold(t, api.File{M: []api.MsgSyn{{F: make([]api.FieldSyn, long), At: 2}}}, api.Schema{}, 2, api.ErrLong)
	hold(t, api.File{M: []api.MsgSyn{{Ones: make([]string, long), At: 2}}}, api.Schema{}, 2, api.ErrLong)
	hold(t, api.File{M: []api.MsgSyn{{}}, E: []api.EnumSyn{{Name: "E", V: make([]api.ValSyn, long), At: 2}}}, api.Schema{}, 2, api.ErrLong)
	f := oneField(api.FieldSyn{Type: "bool"})
	f.M[0].Res = make([]int64, long)
	hold(t, f, schema1(fieldOf(1, "a", api.Flag)), 0, api.OK)
	f.M[0].Res[long-1] = 1
	hold(t, f, api.Schema{}, 7, api.ErrForm)
}

func ExampleRead() {
	s, at, err := table.Read("message A { A a = 2; int64 b = 1; }")
	fmt.Println(s.M, at, err)
	s, at, err = table.Read("message A { B a = 1; }")
	fmt.Println(s.M, at, err)
	// Output:
	// [{A [{1 b 0 0 false -1 0} {2 a 9 0 false -1 0}]}] 0 0
	// [] 12 3
}
