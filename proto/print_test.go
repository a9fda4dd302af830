package proto_test

import (
	"fmt"
	"math"
	"math/rand/v2"
	"slices"
	"strings"
	"testing"

	"truffle/api"
	"truffle/proto"
)

// holdPrinted holds what Print tells of a file against its lines.
func holdPrinted(t *testing.T, f api.File, lines ...string) {
	t.Helper()
	want := ""
	for _, l := range lines {
		want += l + "\n"
	}
	if got := proto.Print(f); got != want {
		t.Fatalf("Print(%+v) is\n%s, not\n%s", f, got, want)
	}
}

// holdAgain holds that a file that is parsed is the same when it is printed and parsed again, and printed again the same text.
func holdAgain(t *testing.T, f api.File) {
	t.Helper()
	text := proto.Print(f)
	if text != wantPrinted(f) {
		t.Fatalf("Print(%+v) is\n%s, not\n%s", f, text, wantPrinted(f))
	}
	g, at, err := proto.Parse(text)
	if err != api.OK || at != len(text) {
		t.Fatalf("%q is no file: %d, %d", text, at, err)
	}
	if !proto.Same(f, g) || !proto.Same(g, f) || !alike(nowhere(f), nowhere(g)) {
		t.Fatalf("%+v is parsed again as %+v", f, g)
	}
	if again := proto.Print(g); again != text {
		t.Fatalf("%q is printed again as %q", text, again)
	}
}

// own is a list that shares nothing; one without elements is nil.
func own[T any](l []T) []T { return append([]T(nil), l...) }

// copyOf is a file whose lists are its own.
func copyOf(f api.File) api.File {
	g := api.File{M: own(f.M), E: own(f.E)}
	for i, m := range g.M {
		g.M[i].F, g.M[i].Ones, g.M[i].Res = own(m.F), own(m.Ones), own(m.Res)
	}
	for i, e := range g.E {
		g.E[i].V = own(e.V)
	}
	return g
}

// nowhere is a file without where anything begins.
func nowhere(f api.File) api.File {
	g := copyOf(f)
	for i := range g.M {
		g.M[i].At = 0
		for k := range g.M[i].F {
			g.M[i].F[k].At = 0
		}
	}
	for i := range g.E {
		g.E[i].At = 0
		for k := range g.E[i].V {
			g.E[i].V[k].At = 0
		}
	}
	return g
}

// P7.2: each line of a file of everything; messages stand ahead of enums.
func TestPrintedFiles(t *testing.T) {
	holdPrinted(t, api.File{})
	holdPrinted(t, fields(api.FieldSyn{Type: "int64", Name: "a", No: 1, At: 12}), "message A {", "  int64 a = 1;", "}")
	holdPrinted(t, message1(api.MsgSyn{Name: "A"}), "message A {", "}")
	holdPrinted(t, enum1(api.EnumSyn{Name: "E"}), "enum E {", "}")
	f, _, _ := proto.Parse("enum E { Z = 0; Y = -1; } message A { reserved 7, -8; repeated B b = 2; oneof d { bool e = 4; string f = 5; } map<string, B> c = 3; oneof g { B g = 6; } reserved 9; oneof h { } } enum F { } message B { B a = -1; }")
	holdPrinted(t, f,
		"message A {", "  repeated B b = 2;", "  oneof d {", "    bool e = 4;", "    string f = 5;", "  }", "  map<string, B> c = 3;", "  oneof g {", "    B g = 6;", "  }", "  reserved 7, -8, 9;", "}",
		"message B {", "  B a = -1;", "}",
		"enum E {", "  Z = 0;", "  Y = -1;", "}", "enum F {", "}")
}

// P7.2: reserved numbers: none, one, several, at both ends.
func TestPrintedNumbers(t *testing.T) {
	holdPrinted(t, message1(api.MsgSyn{Name: "A", Res: []int64{}}), "message A {", "}")
	holdPrinted(t, message1(api.MsgSyn{Name: "A", Res: []int64{0}}), "message A {", "  reserved 0;", "}")
	holdPrinted(t, message1(api.MsgSyn{Name: "A", Res: []int64{1, -1, 1}}), "message A {", "  reserved 1, -1, 1;", "}")
	holdPrinted(t, message1(api.MsgSyn{Name: "A", Res: []int64{math.MinInt64, math.MaxInt64}}), "message A {", "  reserved -9223372036854775808, 9223372036854775807;", "}")
	holdPrinted(t, fields(api.FieldSyn{Type: "B", Name: "a", No: math.MinInt64}), "message A {", "  B a = -9223372036854775808;", "}")
	holdPrinted(t, enum1(api.EnumSyn{Name: "E", V: []api.ValSyn{{Name: "a", N: math.MaxInt64}}}), "enum E {", "  a = 9223372036854775807;", "}")
}

// P7.2: a map is printed alone, whether it is repeated or not.
func TestPrintedMaps(t *testing.T) {
	for _, rep := range []bool{false, true} {
		holdPrinted(t, fields(api.FieldSyn{Type: "B", Key: "string", Rep: rep, Name: "a", No: 1}), "message A {", "  map<string, B> a = 1;", "}")
		holdPrinted(t, fields(api.FieldSyn{Key: "k", Rep: rep}), "message A {", "  map<k, >  = 0;", "}")
	}
	holdPrinted(t, fields(api.FieldSyn{Type: "map", Rep: true, Name: "a", No: 1}, api.FieldSyn{Type: "map", Name: "b", No: 2}), "message A {", "  repeated map a = 1;", "  map b = 2;", "}")
}

// P7.2: fields of a oneof that do not stand together are printed at the first of them; oneofs stand in the order of these.
func TestPrintedOneofs(t *testing.T) {
	holdPrinted(t, message1(api.MsgSyn{Name: "A", Ones: []string{"o", "p", "q"}, F: []api.FieldSyn{
		{Type: "B", Name: "a", No: 1}, {Type: "B", One: 3, Name: "b", No: 2}, {Type: "B", One: 1, Name: "c", No: 3}, {Type: "B", Name: "d", No: 4}, {Type: "B", One: 3, Name: "e", No: 5}, {Type: "B", One: 1, Name: "f", No: 6}, {Type: "B", One: 3, Name: "g", No: 7}, {Type: "B", Name: "h", No: 8},
	}}),
		"message A {", "  B a = 1;", "  oneof q {", "    B b = 2;", "    B e = 5;", "    B g = 7;", "  }", "  oneof o {", "    B c = 3;", "    B f = 6;", "  }", "  B d = 4;", "  B h = 8;", "}")
	holdPrinted(t, message1(api.MsgSyn{Name: "A", Ones: []string{"o", "o"}, F: []api.FieldSyn{{Type: "B", One: 2, Name: "a", No: 1}, {Type: "B", One: 1, Name: "b", No: 2}}}),
		"message A {", "  oneof o {", "    B a = 1;", "  }", "  oneof o {", "    B b = 2;", "  }", "}")
	holdPrinted(t, message1(api.MsgSyn{Name: "A", Ones: []string{"o"}, F: []api.FieldSyn{{Type: "B", Rep: true, One: 1, Name: "a", No: 1}, {Type: "B", Key: "k", Rep: true, One: 1, Name: "b", No: 2}}}),
		"message A {", "  oneof o {", "    repeated B a = 1;", "    map<k, B> b = 2;", "  }", "}")
}

// P7.2: a number of a oneof that there is not is that of none.
func TestPrintedOneofsThatAreNot(t *testing.T) {
	for _, n := range []int{0, -1, -2, 3, 4, math.MinInt, math.MaxInt, math.MinInt + 1, 1 << 32} {
		holdPrinted(t, message1(api.MsgSyn{Name: "A", Ones: []string{"o", "p"}, F: []api.FieldSyn{{Type: "B", One: n, Name: "a", No: 1}, {Type: "B", One: 2, Name: "b", No: 2}, {Type: "B", One: n, Name: "c", No: 3}}}),
			"message A {", "  B a = 1;", "  oneof p {", "    B b = 2;", "  }", "  B c = 3;", "}")
	}
	holdPrinted(t, fields(api.FieldSyn{Type: "B", One: 1, Name: "a", No: 1}), "message A {", "  B a = 1;", "}")
}

// P7.2: names of any bytes are printed as they are, also none.
func TestPrintedNames(t *testing.T) {
	for _, n := range []string{"", " ", "a b", "}", "\n", "\x00", "\xff\xfe", "é", "// ", `"`, `\`, "%d", "message", "1"} {
		holdPrinted(t, api.File{
			M: []api.MsgSyn{{Name: n, Ones: []string{n}, F: []api.FieldSyn{{Type: n, Name: n, No: 1}, {Type: n, Rep: true, Name: n, No: 2}, {Type: n, Key: "k" + n, Name: n, No: 3}, {Type: n, One: 1, Name: n, No: 4}}}},
			E: []api.EnumSyn{{Name: n, V: []api.ValSyn{{Name: n, N: 5}}}},
		},
			"message "+n+" {", "  "+n+" "+n+" = 1;", "  repeated "+n+" "+n+" = 2;", "  map<k"+n+", "+n+"> "+n+" = 3;", "  oneof "+n+" {", "    "+n+" "+n+" = 4;", "  }", "}",
			"enum "+n+" {", "  "+n+" = 5;", "}")
	}
	holdPrinted(t, api.File{M: make([]api.MsgSyn, 1), E: make([]api.EnumSyn, 1)}, "message  {", "}", "enum  {", "}")
}

// strange is some file that no text need have.
func strange(chance *rand.Rand) api.File {
	var f api.File
	texts := []string{"", "a", "b", "map", "repeated", "}", "\xff", "\n"}
	text := func() string { return texts[chance.IntN(len(texts))] }
	for range chance.IntN(3) {
		m := api.MsgSyn{Name: text(), At: chance.IntN(9)}
		for range chance.IntN(4) {
			m.Ones = append(m.Ones, text())
		}
		for range chance.IntN(8) {
			key := ""
			if chance.IntN(3) == 0 {
				key = text()
			}
			m.F = append(m.F, api.FieldSyn{Type: text(), Key: key, Rep: chance.IntN(2) == 0, One: chance.IntN(8) - 2, Name: text(), No: chance.Int64() - 1<<62, At: chance.IntN(9) - 3})
		}
		for range chance.IntN(3) {
			m.Res = append(m.Res, chance.Int64()-1<<62)
		}
		f.M = append(f.M, m)
	}
	for range chance.IntN(3) {
		e := api.EnumSyn{Name: text(), At: chance.IntN(9)}
		for range chance.IntN(3) {
			e.V = append(e.V, api.ValSyn{Name: text(), N: chance.Int64() - 1<<62, At: chance.IntN(9) - 3})
		}
		f.E = append(f.E, e)
	}
	return f
}

// P7.2, R3: many files of any kind are printed, and held against themselves, and stay as they were.
func TestStrangeFiles(t *testing.T) {
	chance := rand.New(rand.NewPCG(7, 2))
	for range 3000 {
		f := strange(chance)
		g := copyOf(f)
		if got := proto.Print(f); got != wantPrinted(g) {
			t.Fatalf("Print(%+v) is\n%s, not\n%s", g, got, wantPrinted(g))
		}
		h := strange(chance)
		if proto.Same(f, h) != alike(nowhere(f), nowhere(h)) || !proto.Same(f, nowhere(f)) || !proto.Same(nowhere(f), f) {
			t.Fatalf("%+v, %+v", f, h)
		}
		if !alike(f, g) {
			t.Fatalf("%+v was %+v", f, g)
		}
	}
}

// P1: what is printed of many oneofs, and many fields, ends soon.
func TestManyOneofs(t *testing.T) {
	const many = 200000
	m := api.MsgSyn{Name: "A", Ones: make([]string, many)}
	for i := range many {
		m.F = append(m.F, api.FieldSyn{Type: "B", One: many - i}, api.FieldSyn{Type: "B", One: 1 + i})
	}
	text := proto.Print(message1(m))
	if got := strings.Count(text, "\n"); got != 4*many+2 {
		t.Errorf("%d lines", got)
	}
	if !proto.Same(message1(m), message1(m)) {
		t.Error("not the same")
	}
}

// base is a file of all parts.
func base() api.File {
	f, _, _ := proto.Parse("message A { B a = 1; repeated B b = 2; map<k, B> c = 3; oneof o { B d = 4; } oneof p { B e = 5; } reserved 6, 7; } message B { } enum E { X = 0; Y = 1; } enum F { }")
	return f
}

// P7.2: files that differ in one of their parts alone are not the same.
func TestEachPartThatDiffers(t *testing.T) {
	changes := map[string]func(f *api.File){
		"message's name":   func(f *api.File) { f.M[1].Name = "C" },
		"first message":    func(f *api.File) { f.M[0].Name = "a" },
		"one message less": func(f *api.File) { f.M = f.M[:1] },
		"one message more": func(f *api.File) { f.M = append(f.M, api.MsgSyn{}) },
		"no messages":      func(f *api.File) { f.M = nil },
		"messages' order":  func(f *api.File) { f.M[0], f.M[1] = f.M[1], f.M[0] },
		"type":             func(f *api.File) { f.M[0].F[0].Type = "A" },
		"key":              func(f *api.File) { f.M[0].F[2].Key = "l" },
		"no key":           func(f *api.File) { f.M[0].F[2].Key = "" },
		"a key":            func(f *api.File) { f.M[0].F[0].Key = "k" },
		"repeated":         func(f *api.File) { f.M[0].F[0].Rep = true },
		"not repeated":     func(f *api.File) { f.M[0].F[1].Rep = false },
		"repeated map":     func(f *api.File) { f.M[0].F[2].Rep = true },
		"in a oneof":       func(f *api.File) { f.M[0].F[0].One = 1 },
		"in no oneof":      func(f *api.File) { f.M[0].F[3].One = 0 },
		"oneof's number":   func(f *api.File) { f.M[0].F[4].One = 1 },
		"no such oneof":    func(f *api.File) { f.M[0].F[0].One = -1 },
		"field's name":     func(f *api.File) { f.M[0].F[4].Name = "E" },
		"no name":          func(f *api.File) { f.M[0].F[4].Name = "" },
		"field's number":   func(f *api.File) { f.M[0].F[0].No = -1 },
		"high number":      func(f *api.File) { f.M[0].F[0].No += 1 << 32 },
		"one field less":   func(f *api.File) { f.M[0].F = f.M[0].F[:4] },
		"one field more":   func(f *api.File) { f.M[0].F = append(f.M[0].F, api.FieldSyn{}) },
		"field of another": func(f *api.File) { f.M[1].F = append(f.M[1].F, api.FieldSyn{}) },
		"fields' order":    func(f *api.File) { f.M[0].F[0], f.M[0].F[1] = f.M[0].F[1], f.M[0].F[0] },
		"oneof's name":     func(f *api.File) { f.M[0].Ones[1] = "o" },
		"oneofs' order":    func(f *api.File) { f.M[0].Ones[0], f.M[0].Ones[1] = "p", "o" },
		"one oneof less":   func(f *api.File) { f.M[0].Ones = f.M[0].Ones[:1] },
		"one oneof more":   func(f *api.File) { f.M[0].Ones = append(f.M[0].Ones, "") },
		"reserved number":  func(f *api.File) { f.M[0].Res[1] = 8 },
		"numbers' order":   func(f *api.File) { f.M[0].Res[0], f.M[0].Res[1] = 7, 6 },
		"one number less":  func(f *api.File) { f.M[0].Res = f.M[0].Res[:1] },
		"one number more":  func(f *api.File) { f.M[0].Res = append(f.M[0].Res, 0) },
		"enum's name":      func(f *api.File) { f.E[1].Name = "f" },
		"one enum less":    func(f *api.File) { f.E = f.E[:1] },
		"one enum more":    func(f *api.File) { f.E = append(f.E, api.EnumSyn{}) },
		"no enums":         func(f *api.File) { f.E = nil },
		"enums' order":     func(f *api.File) { f.E[0], f.E[1] = f.E[1], f.E[0] },
		"value's name":     func(f *api.File) { f.E[0].V[1].Name = "Z" },
		"value's number":   func(f *api.File) { f.E[0].V[1].N = -1 },
		"values' order":    func(f *api.File) { f.E[0].V[0], f.E[0].V[1] = f.E[0].V[1], f.E[0].V[0] },
		"one value less":   func(f *api.File) { f.E[0].V = f.E[0].V[:1] },
		"one value more":   func(f *api.File) { f.E[0].V = append(f.E[0].V, api.ValSyn{}) },
	}
	for what, change := range changes {
		f := base()
		change(&f)
		if proto.Same(f, base()) || proto.Same(base(), f) {
			t.Errorf("%s: the same", what)
		}
		if !proto.Same(f, copyOf(f)) {
			t.Errorf("%s: not the same as itself", what)
		}
	}
}

// P7.2: where things begin does not matter, and lists without elements may be nil or empty.
func TestWhatDoesNotDiffer(t *testing.T) {
	changes := map[string]func(f *api.File){
		"nothing":         func(f *api.File) {},
		"message's place": func(f *api.File) { f.M[1].At = -1 },
		"field's place":   func(f *api.File) { f.M[0].F[3].At++ },
		"enum's place":    func(f *api.File) { f.E[1].At = 0 },
		"value's place":   func(f *api.File) { f.E[0].V[1].At = math.MaxInt },
		"all places":      func(f *api.File) { *f = nowhere(*f) },
		"empty lists":     func(f *api.File) { f.M[1].F, f.M[1].Ones, f.M[1].Res = []api.FieldSyn{}, []string{}, []int64{} },
		"an empty enum":   func(f *api.File) { f.E[1].V = []api.ValSyn{} },
		"no lists":        func(f *api.File) { f.M[1].F, f.M[1].Ones, f.M[1].Res, f.E[1].V = nil, nil, nil, nil },
	}
	for what, change := range changes {
		f := base()
		change(&f)
		if !proto.Same(f, base()) || !proto.Same(base(), f) {
			t.Errorf("%s: not the same", what)
		}
	}
	if !proto.Same(api.File{}, api.File{M: []api.MsgSyn{}, E: []api.EnumSyn{}}) {
		t.Error("files of nothing are not the same")
	}
}

// P7.3: ordinary texts, printed and parsed again, if each of their oneofs has a field.
func TestPrintedAndParsedAgain(t *testing.T) {
	texts := append(samples(), "", "// a", "message A { } enum E { }", "message A { reserved 1; reserved 2; B a = 1; reserved 3; }", "message A { oneof o { B a = 1; } B b = 2; oneof p { B c = 3; B d = 4; } }")
	for _, k := range keywords() {
		texts = append(texts, "message "+k+" { "+"B "+k+" = 1; repeated "+k+" "+k+" = 2; map<"+k+", "+k+"> "+k+" = 3; oneof "+k+" { "+k+" "+k+" = 4; } } enum "+k+" { "+k+" = 0; }")
	}
	for _, s := range texts {
		f, _, err := proto.Parse(strings.ReplaceAll(s, "oneof h{}", ""))
		if err != api.OK {
			t.Fatalf("%q: %d", s, err)
		}
		holdAgain(t, f)
	}
}

// P7.3: a oneof without fields is not printed, so that the numbers of those behind it become others.
func TestOneofsWithoutFieldsAreNotPrinted(t *testing.T) {
	f, _, _ := proto.Parse("message A { oneof o { } oneof p { B a = 1; } oneof q { } }")
	holdPrinted(t, f, "message A {", "  oneof p {", "    B a = 1;", "  }", "}")
	g, _, _ := proto.Parse(proto.Print(f))
	if proto.Same(f, g) || g.M[0].F[0].One != 1 || !slices.Equal(g.M[0].Ones, []string{"p"}) {
		t.Errorf("%+v", g)
	}
}

// P7.2, P7.3: what is printed may be longer than a text may be; then it is that, and not parsed again.
func TestPrintedTextsThatAreTooLong(t *testing.T) {
	for long, want := range map[int]api.Errno{4976: api.OK, 4977: api.ErrLong} {
		name := strings.Repeat("n", long)
		f, _, err := proto.Parse("message A{B " + name + "=1;}")
		if err != api.OK {
			t.Fatalf("%d", err)
		}
		holdPrinted(t, f, "message A {", "  B "+name+" = 1;", "}")
		if _, _, err := proto.Parse(proto.Print(f)); err != want {
			t.Errorf("of %d letters: %d", long, err)
		}
	}
}

func ExamplePrint() {
	f, _, _ := proto.Parse("message A{map<string,A>m=2;reserved 4,5;oneof o{int64 a=1;bool b=3;}}enum E{Z=0;}")
	fmt.Print(proto.Print(f))
	// Output:
	// message A {
	//   map<string, A> m = 2;
	//   oneof o {
	//     int64 a = 1;
	//     bool b = 3;
	//   }
	//   reserved 4, 5;
	// }
	// enum E {
	//   Z = 0;
	// }
}

func ExampleSame() {
	f, _, _ := proto.Parse("message A { int64 a = 1; }")
	g, _, _ := proto.Parse("message A{int64 a=1;}")
	h, _, _ := proto.Parse("message A { int64 a = 2; }")
	fmt.Println(proto.Same(f, g), proto.Same(f, h))
	// Output: true false
}
