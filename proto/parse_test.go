package proto_test

import (
	"fmt"
	"math"
	"math/rand/v2"
	"reflect"
	"strings"
	"testing"

	"truffle/api"
	"truffle/proto"
	"truffle/token"
)

// alike tells whether two files are the same, places too; lists without elements may be nil.
func alike(f, g api.File) bool {
	return reflect.DeepEqual(copyOf(f), copyOf(g))
}

// hold holds what Parse tells of a text that is a file against this.
func hold(t *testing.T, s string, want api.File) {
	t.Helper()
	if f, at, err := proto.Parse(s); err != api.OK || at != len(s) || !alike(f, want) {
		t.Fatalf("Parse(%.200q) is %+v, %d, %d, not %+v", s, f, at, err, want)
	}
}

// holdError holds what Parse tells of another text against its error, its place, and nothing else.
func holdError(t *testing.T, s string, place int, want api.Errno) {
	t.Helper()
	f, at, err := proto.Parse(s)
	if err != want || at != place || len(f.M) != 0 || len(f.E) != 0 {
		t.Fatalf("Parse(%.200q) is %+v, %d, %d, not %d, %d", s, f, at, err, place, want)
	}
}

// holdWords holds Parse against what P7.1 asks, and tells where a text is wrong, or how long it is.
func holdWords(t *testing.T, s string) (int, api.Errno) {
	t.Helper()
	f, at, err := wantParsed(s)
	if err != api.OK {
		holdError(t, s, at, err)
		return at, err
	}
	hold(t, s, f)
	return at, err
}

// message1 is a file of one message.
func message1(m api.MsgSyn) api.File { return api.File{M: []api.MsgSyn{m}} }

// enum1 is a file of one enum.
func enum1(e api.EnumSyn) api.File { return api.File{E: []api.EnumSyn{e}} }

// fields are those of a message A at 0.
func fields(l ...api.FieldSyn) api.File { return message1(api.MsgSyn{Name: "A", F: l}) }

// samples are ordinary texts, of all that there is.
func samples() []string {
	return []string{
		"message A { int64 a = 1; }",
		"message A{int64 a=1;repeated B b=2;map<string,B>c=3;oneof d{bool e=4;text f=-5;}reserved 7,8,-9;map g=10;reserved 11;oneof h{}}enum E{Z=0;Y=-1;}message B{}enum F{}",
		"// first\nmessage A {\n\trepeated int64 a = 1; // a\r\n  oneof o { B b = 2; }\n  int64 c = 3; oneof p { E d = 4; repeated f = 5; }\n}\nenum E { A = 0; }",
		"message message { message message = 1; enum enum = 2; map map = 3; repeated repeated repeated = 4; repeated oneof oneof = 5; map<map, reserved> reserved = 6; oneof reserved { oneof oneof = 7; map map = 8; reserved reserved = 9; } } enum enum { enum = 0; reserved = 1; map = 2; message = 3; }",
		"enum E { } message A { } enum F { X = 9223372036854775807; X = -9223372036854775808; } message A { reserved 0; }",
	}
}

// P7.1: the example, and a text of everything, with all places.
func TestTextsOfFiles(t *testing.T) {
	hold(t, "message A { int64 a = 1; }", fields(api.FieldSyn{Type: "int64", Name: "a", No: 1, At: 12}))
	hold(t, " message A {\n repeated B b = 2;\n map<string, B> c = 3;\n oneof d { bool e = 4; string f = 5; }\n reserved 7, 8;\n bytes g = 6; }\n enum E { Z = 0; Y = -1; }\n message B {}", api.File{
		M: []api.MsgSyn{{Name: "A", At: 1, F: []api.FieldSyn{
			{Type: "B", Rep: true, Name: "b", No: 2, At: 14},
			{Type: "B", Key: "string", Name: "c", No: 3, At: 33},
			{Type: "bool", One: 1, Name: "e", No: 4, At: 66},
			{Type: "string", One: 1, Name: "f", No: 5, At: 78},
			{Type: "bytes", Name: "g", No: 6, At: 111},
		}, Ones: []string{"d"}, Res: []int64{7, 8}}, {Name: "B", At: 154}},
		E: []api.EnumSyn{{Name: "E", At: 127, V: []api.ValSyn{{Name: "Z", N: 0, At: 136}, {Name: "Y", N: -1, At: 143}}}},
	})
}

// P7.1: texts without tokens, and things without items.
func TestEmptyFiles(t *testing.T) {
	for _, s := range []string{"", " ", "\n\t\r ", "// message A", "// a\n//b\n"} {
		hold(t, s, api.File{})
	}
	hold(t, "message A {}", message1(api.MsgSyn{Name: "A"}))
	hold(t, "message A{} ", message1(api.MsgSyn{Name: "A"}))
	hold(t, "  enum E { } // }", enum1(api.EnumSyn{Name: "E", At: 2}))
	hold(t, "message A { oneof o { } }", message1(api.MsgSyn{Name: "A", Ones: []string{"o"}}))
}

// P7.1: where fields begin: at the type, at `repeated`, at `map`; of a oneof's at the type.
func TestWhereFieldsBegin(t *testing.T) {
	hold(t, "message A { B a = 1; }", fields(api.FieldSyn{Type: "B", Name: "a", No: 1, At: 12}))
	hold(t, "message A { repeated  B a = 1; }", fields(api.FieldSyn{Type: "B", Rep: true, Name: "a", No: 1, At: 12}))
	hold(t, "message A { map <B, C> a = 1; }", fields(api.FieldSyn{Type: "C", Key: "B", Name: "a", No: 1, At: 12}))
	hold(t, "message A { oneof o { B a = 1; } }", message1(api.MsgSyn{Name: "A", Ones: []string{"o"}, F: []api.FieldSyn{{Type: "B", One: 1, Name: "a", No: 1, At: 22}}}))
}

// P7.1: messages and enums stand in order each, whatever the order of both is, and whatever their names are.
func TestMessagesAndEnumsInAnyOrder(t *testing.T) {
	hold(t, "enum E {} message A {} enum F {} message B {} message A {} enum E {}", api.File{
		M: []api.MsgSyn{{Name: "A", At: 10}, {Name: "B", At: 33}, {Name: "A", At: 46}},
		E: []api.EnumSyn{{Name: "E", At: 0}, {Name: "F", At: 23}, {Name: "E", At: 59}},
	})
	for _, order := range []string{"", "m", "e", "me", "em", "mm", "ee", "mem", "eme", "mme", "eem", "meem", "emme"} {
		text, want := "", api.File{}
		for i := range len(order) {
			name, at := fmt.Sprintf("N%d", i), len(text)
			if order[i] == 'm' {
				want.M = append(want.M, api.MsgSyn{Name: name, At: at})
				text += "message " + name + " {}"
				continue
			}
			want.E = append(want.E, api.EnumSyn{Name: name, At: at})
			text += "enum " + name + " {}"
		}
		hold(t, text, want)
	}
}

// keywords are the names that begin something, and one that is as any other.
func keywords() []string {
	return []string{"message", "enum", "repeated", "map", "oneof", "reserved", "x"}
}

// P7.1: names that begin something, as names, and as types where they begin nothing.
func TestKeywordsAsNames(t *testing.T) {
	for _, k := range keywords() {
		hold(t, "message "+k+" {}", message1(api.MsgSyn{Name: k}))
		hold(t, "enum "+k+" {}", enum1(api.EnumSyn{Name: k}))
		hold(t, "enum E { "+k+" = 1; }", enum1(api.EnumSyn{Name: "E", V: []api.ValSyn{{Name: k, N: 1, At: 9}}}))
		hold(t, "message A { B "+k+" = 1; }", fields(api.FieldSyn{Type: "B", Name: k, No: 1, At: 12}))
		hold(t, "message A { repeated "+k+" "+k+" = 1; }", fields(api.FieldSyn{Type: k, Rep: true, Name: k, No: 1, At: 12}))
		hold(t, "message A { map<"+k+", "+k+"> "+k+" = 1; }", fields(api.FieldSyn{Type: k, Key: k, Name: k, No: 1, At: 12}))
		hold(t, "message A { oneof "+k+" { "+k+" "+k+" = 1; } }", message1(api.MsgSyn{Name: "A", Ones: []string{k}, F: []api.FieldSyn{{Type: k, One: 1, Name: k, No: 1, At: 21 + len(k)}}}))
	}
	for _, k := range []string{"message", "enum", "map", "x"} {
		hold(t, "message A { "+k+" "+k+" = 1; }", fields(api.FieldSyn{Type: k, Name: k, No: 1, At: 12}))
	}
}

// P7.1: `repeated`, `oneof` and `reserved` always begin theirs in a message, also where a field would fit.
func TestKeywordsThatAlwaysBegin(t *testing.T) {
	holdError(t, "message A { repeated a = 1; }", 23, api.ErrForm)
	holdError(t, "message A { oneof a = 1; }", 20, api.ErrForm)
	holdError(t, "message A { reserved a = 1; }", 21, api.ErrForm)
	holdError(t, "message A { repeated = 1; }", 21, api.ErrForm)
	holdError(t, "message A { oneof = 1; }", 18, api.ErrForm)
	holdError(t, "message A { reserved = 1; }", 21, api.ErrForm)
	holdError(t, "message A { repeated oneof o { B a = 1; } }", 29, api.ErrForm)
	holdError(t, "message A { repeated reserved 1; }", 30, api.ErrForm)
	holdError(t, "message A { repeated repeated a; }", 31, api.ErrForm)
	holdError(t, "message A { oneof oneof o { } }", 24, api.ErrForm)
}

// P7.1: `map` with and without `<` behind it, in a message, behind `repeated`, and within a oneof.
func TestMapsAndTheTypeMap(t *testing.T) {
	hold(t, "message A { map m = 1; map<map, map> map = 2; map map = 3; }", fields(
		api.FieldSyn{Type: "map", Name: "m", No: 1, At: 12},
		api.FieldSyn{Type: "map", Key: "map", Name: "map", No: 2, At: 23},
		api.FieldSyn{Type: "map", Name: "map", No: 3, At: 46}))
	hold(t, "message A { map // <\n<a,b>c=1;}", fields(api.FieldSyn{Type: "b", Key: "a", Name: "c", No: 1, At: 12}))
	hold(t, "message A { maps m = 1; }", fields(api.FieldSyn{Type: "maps", Name: "m", No: 1, At: 12}))
	holdError(t, "message A { maps<a, b> m = 1; }", 16, api.ErrForm)
	holdError(t, "message A { repeated map<a, b> m = 1; }", 24, api.ErrForm)
	holdError(t, "message A { oneof o { map<a, b> m = 1; } }", 25, api.ErrForm)
	holdError(t, "message A { map \"<\" a, b> m = 1; }", 16, api.ErrForm)
	holdError(t, "message A { map = 1; }", 16, api.ErrForm)
	holdError(t, "message A { map", 15, api.ErrForm)
	holdError(t, "message A { map <", 17, api.ErrForm)
	holdError(t, "map<a, b> m = 1;", 0, api.ErrForm)
}

// P7.1: oneofs without fields, with one, with several, and several of one name; fields tell theirs.
func TestOneofs(t *testing.T) {
	hold(t, "message A { oneof o {} B a = 1; oneof p { B b = 2; } oneof o { B c = 3; B d = 4; B e = 5; } oneof q {} B f = 6; }", message1(api.MsgSyn{Name: "A", F: []api.FieldSyn{
		{Type: "B", Name: "a", No: 1, At: 23},
		{Type: "B", One: 2, Name: "b", No: 2, At: 42},
		{Type: "B", One: 3, Name: "c", No: 3, At: 63},
		{Type: "B", One: 3, Name: "d", No: 4, At: 72},
		{Type: "B", One: 3, Name: "e", No: 5, At: 81},
		{Type: "B", Name: "f", No: 6, At: 103},
	}, Ones: []string{"o", "p", "o", "q"}}))
	f, _, _ := proto.Parse("message A { oneof a { B a = 1; } } message B { oneof b { B b = 2; } }")
	if len(f.M) != 2 || f.M[1].F[0].One != 1 || !reflect.DeepEqual(f.M[1].Ones, []string{"b"}) {
		t.Errorf("a message's oneofs begin at 1: %+v", f)
	}
	holdError(t, "message A { oneof o { repeated B a = 1; } }", 33, api.ErrForm)
	holdError(t, "message A { oneof o { oneof p { } } }", 30, api.ErrForm)
	holdError(t, "message A { oneof o { reserved 1; } }", 31, api.ErrForm)
	holdError(t, "message A { oneof o { B a = 1; }; }", 32, api.ErrForm)
}

// P7.1: several lists of reserved numbers, and numbers below 0, and of any size.
func TestNumbers(t *testing.T) {
	hold(t, "message A { reserved 7; B a = 1; reserved 9, -8, 7; reserved 0,0; }", message1(api.MsgSyn{Name: "A", F: []api.FieldSyn{{Type: "B", Name: "a", No: 1, At: 24}}, Res: []int64{7, 9, -8, 7, 0, 0}}))
	for _, n := range []int64{0, 1, -1, 1 << 29, 1<<29 - 1, -1 << 31, math.MaxInt64, math.MinInt64} {
		text := fmt.Sprint(n)
		hold(t, "message A { B a = "+text+"; }", fields(api.FieldSyn{Type: "B", Name: "a", No: n, At: 12}))
		hold(t, "message A { reserved "+text+"; }", message1(api.MsgSyn{Name: "A", Res: []int64{n}}))
		hold(t, "enum E { A = "+text+"; }", enum1(api.EnumSyn{Name: "E", V: []api.ValSyn{{Name: "A", N: n, At: 9}}}))
	}
	holdError(t, "message A { reserved 1,; }", 23, api.ErrForm)
	holdError(t, "message A { reserved ,1; }", 21, api.ErrForm)
	holdError(t, "message A { reserved 1,,2; }", 23, api.ErrForm)
	holdError(t, "message A { reserved 1 2; }", 23, api.ErrForm)
	holdError(t, "message A { reserved 1, a; }", 24, api.ErrForm)
	holdError(t, "message A { reserved; }", 20, api.ErrForm)
}

// P7.1: token's error is told, and its place, ahead of what can't follow.
func TestErrorsOfTokens(t *testing.T) {
	holdError(t, "?", 0, api.ErrForm)
	holdError(t, "message A { ? }", 12, api.ErrForm)
	holdError(t, "} } ?", 4, api.ErrForm)
	holdError(t, "1 message A { int64 a = 01; }", 24, api.ErrForm)
	holdError(t, "enum E { A = \"", 13, api.ErrForm)
	holdError(t, strings.Repeat(" ", 5001), 0, api.ErrLong)
	holdError(t, "}"+strings.Repeat(" ", 5000), 0, api.ErrLong)
	holdError(t, strings.Repeat("}", 1001), 1000, api.ErrLong)
	holdError(t, strings.Repeat("message A {}", 250)+" }", 3001, api.ErrLong)
}

// P7.1: texts as long as they may be, of as many tokens as there may be.
func TestLongFiles(t *testing.T) {
	f, at, err := proto.Parse(strings.Repeat("message A {}", 250))
	if err != api.OK || at != 3000 || len(f.M) != 250 || f.M[249].At != 2988 {
		t.Errorf("%d messages, %d, %d", len(f.M), at, err)
	}
	name := strings.Repeat("n", 4988)
	hold(t, "message "+name+" {}"+" ", message1(api.MsgSyn{Name: name}))
	many := "enum E{" + strings.Repeat("A=0;", 248)
	f, at, err = proto.Parse(many + "}  ")
	if err != api.OK || at != len(many)+3 || len(f.E) != 1 || len(f.E[0].V) != 248 {
		t.Errorf("%d, %d", at, err)
	}
	holdError(t, many, len(many), api.ErrForm)
}

// P7.1: what ends too soon is told at the end of the text, whatever blanks stand there.
func TestTextsThatEndTooSoon(t *testing.T) {
	for _, s := range samples() {
		toks, _, _ := token.All(s)
		for i, tok := range toks {
			begun := s[:tok.At]
			for _, blank := range []string{"", " ", "\n// }"} {
				holdWords(t, begun+blank)
			}
			if at, err := holdWords(t, begun); err != api.OK && at != len(begun) {
				t.Fatalf("%q is told at %d, ahead of token %d", begun, at, i)
			}
		}
	}
}

// pieces are tokens of all that is told apart.
func pieces() []string {
	return append(keywords(), "_1", "1", "-2", `"x"`, `"{"`, `"message"`, "{", "}", "(", ")", "[", "]", "<", ">", "=", ";", ",", ".")
}

// P7.1: each token of ordinary texts as another one, left away, twice, and with each other one ahead.
func TestEachTokenAsAnotherOne(t *testing.T) {
	for _, s := range samples() {
		toks, _, _ := token.All(s)
		for i, tok := range toks {
			rest := s[tok.At+len(tok.Text):]
			if i+1 < len(toks) {
				rest = " " + s[toks[i+1].At:]
			}
			holdWords(t, s[:tok.At]+rest)
			for _, p := range pieces() {
				holdWords(t, s[:tok.At]+p+rest)
				holdWords(t, s[:tok.At]+p+" "+s[tok.At:])
			}
			holdWords(t, s[:tok.At]+tok.Text+" "+s[tok.At:])
		}
	}
}

// goOn holds Parse at all texts of so many more tokens that begin so; behind a token that can't follow nothing matters.
func goOn(t *testing.T, begun string, more int) {
	t.Helper()
	for _, p := range pieces() {
		s := begun + " " + p
		at, err := holdWords(t, s)
		if err != api.OK && at < len(s) {
			holdError(t, s+" } } x = 1 ; \"", len(s)+13, api.ErrForm)
			holdError(t, s+" } } message A { }", at, err)
			continue
		}
		if more > 1 {
			goOn(t, s, more-1)
		}
	}
}

// P7.1: all short texts, from each state on.
func TestAllShortTexts(t *testing.T) {
	for begun, more := range map[string]int{
		"": 4, "message A {": 4, "message A { x y =": 4, "message A { repeated": 4, "message A { map": 3, "message A { map < k": 4, "message A { map < k , v > m": 4,
		"message A { oneof": 3, "message A { oneof o {": 4, "message A { oneof o { x y = 1 ;": 3, "message A { reserved": 5, "message A { } message": 4, "enum E {": 5, "enum E { } enum": 4,
	} {
		goOn(t, begun, more)
	}
}

// maker writes texts, and the files that these are, by chance from a seed.
type maker struct {
	*rand.Rand
	text []byte
}

// put writes tokens, with blanks ahead, and tells where the first one begins.
func (m *maker) put(tokens ...string) int {
	first := -1
	for _, tok := range tokens {
		m.text = append(m.text, []string{" ", "\n", "\t ", "//}\n", "\r\n"}[m.IntN(5)]...)
		if first < 0 {
			first = len(m.text)
		}
		m.text = append(m.text, tok...)
	}
	return first
}

// name is some name.
func (m *maker) name() string { return pieces()[m.IntN(8)] }

// number is some number.
func (m *maker) number() int64 {
	return []int64{0, 1, -1, 7, -1 << 63, 1<<63 - 1, int64(m.IntN(1000))}[m.IntN(7)]
}

// numbered writes a name and its number.
func (m *maker) numbered() (string, int64, int) {
	name, n := m.name(), m.number()
	return name, n, m.put(name, "=", fmt.Sprint(n), ";")
}

// field writes a field of any type, behind other tokens.
func (m *maker) field(types []string, one int, ahead ...string) api.FieldSyn {
	f := api.FieldSyn{Type: types[m.IntN(len(types))], One: one, Rep: len(ahead) > 0}
	f.At = m.put(append(ahead, f.Type)...)
	f.Name, f.No, _ = m.numbered()
	return f
}

// item writes an item of a message.
func (m *maker) item(syn api.MsgSyn) api.MsgSyn {
	switch m.IntN(6) {
	case 0:
		syn.F = append(syn.F, m.field(keywords(), 0, "repeated"))
	case 1:
		f := api.FieldSyn{Key: m.name(), Type: m.name()}
		f.At = m.put("map", "<", f.Key, ",", f.Type, ">")
		f.Name, f.No, _ = m.numbered()
		syn.F = append(syn.F, f)
	case 2:
		syn.Ones = append(syn.Ones, m.name())
		m.put("oneof", syn.Ones[len(syn.Ones)-1], "{")
		for range 1 + m.IntN(3) {
			syn.F = append(syn.F, m.field(keywords(), len(syn.Ones)))
		}
		m.put("}")
	case 3:
		between := "reserved"
		for range 1 + m.IntN(3) {
			n := m.number()
			syn.Res = append(syn.Res, n)
			m.put(between, fmt.Sprint(n))
			between = ","
		}
		m.put(";")
	default:
		syn.F = append(syn.F, m.field([]string{"message", "enum", "map", "x"}, 0))
	}
	return syn
}

// file writes a file.
func (m *maker) file() api.File {
	var f api.File
	for range m.IntN(5) {
		name := m.name()
		if m.IntN(3) == 0 {
			e := api.EnumSyn{Name: name, At: m.put("enum", name, "{")}
			for range m.IntN(4) {
				v := api.ValSyn{}
				v.Name, v.N, v.At = m.numbered()
				e.V = append(e.V, v)
			}
			m.put("}")
			f.E = append(f.E, e)
			continue
		}
		syn := api.MsgSyn{Name: name, At: m.put("message", name, "{")}
		for range m.IntN(6) {
			syn = m.item(syn)
		}
		m.put("}")
		f.M = append(f.M, syn)
	}
	return f
}

// P7.1: many files, written with any blanks. P7.3: each is printed, and parsed again, and printed.
func TestManyFiles(t *testing.T) {
	chance := rand.New(rand.NewPCG(7, 1))
	for range 3000 {
		m := &maker{Rand: chance}
		f := m.file()
		hold(t, string(m.text), f)
		holdWords(t, string(m.text))
		holdAgain(t, f)
	}
}

// R3, R5: an answer is the caller's own, its lists share nothing, and it hangs on nothing that was asked, or changed, before.
func TestParsedFilesAreTheCallersOwn(t *testing.T) {
	s := samples()[1]
	want, _, _ := wantParsed(s)
	first, _, _ := proto.Parse(s)
	for i := range first.M {
		m := &first.M[i]
		m.F = append(m.F[:len(m.F):cap(m.F)], api.FieldSyn{Name: "?"})[:len(m.F)]
		m.Ones = append(m.Ones, "?")[:len(m.Ones)]
		m.Res = append(m.Res, -1)[:len(m.Res)]
	}
	for i := range first.E {
		e := &first.E[i]
		e.V = append(e.V, api.ValSyn{Name: "?"})[:len(e.V)]
	}
	first.M = append(first.M, api.MsgSyn{Name: "?"})[:len(first.M)]
	if !alike(first, want) {
		t.Errorf("lists of one answer share what is behind them: %+v", first)
	}
	first.M[0].F[0], first.M[0].Ones[0], first.M[0].Res[0], first.E[0].V[0], first.M[1].Name = api.FieldSyn{}, "?", 0, api.ValSyn{}, "?"
	proto.Parse("message A { oneof")
	hold(t, s, want)
}

func ExampleParse() {
	f, place, err := proto.Parse("message A { int64 a = 1; }")
	fmt.Printf("%+v %d %d\n", f, place, err)
	_, place, err = proto.Parse("message A { int64 a 1; }")
	fmt.Println(place, err)
	// Output:
	// {M:[{Name:A F:[{Type:int64 Key: Rep:false One:0 Name:a No:1 At:12}] Ones:[] Res:[] At:0}] E:[]} 26 0
	// 20 4
}
