package proto_test

import (
	"fmt"
	"regexp"
	"strings"

	"truffle/api"
	"truffle/token"
)

// form is what a part of a text is, as patterns over its tokens, a byte each: what it is whole, and what it begins with.
type form struct{ whole, begun string }

// one is a token of some.
func one(tokens string) form {
	p := "[" + regexp.QuoteMeta(tokens) + "]"
	return form{p, p + "?"}
}

// behind is forms, one behind the other.
func behind(parts ...form) form {
	last := parts[len(parts)-1]
	if len(parts) == 1 {
		return last
	}
	rest := behind(parts[1:]...)
	return form{parts[0].whole + rest.whole, "(?:" + parts[0].whole + rest.begun + "|" + parts[0].begun + ")"}
}

// either is one of some forms.
func either(parts ...form) form {
	var whole, begun []string
	for _, p := range parts {
		whole, begun = append(whole, p.whole), append(begun, p.begun)
	}
	return form{"(?:" + strings.Join(whole, "|") + ")", "(?:" + strings.Join(begun, "|") + ")"}
}

// many is a form as many times as there is, also none.
func many(p form) form {
	return form{"(?:" + p.whole + ")*", "(?:" + p.whole + ")*" + p.begun}
}

// The bytes of the names that mean something; n is any other name, 0 a number, q a string.
var bytesOfNames = map[string]string{"message": "m", "enum": "e", "repeated": "r", "oneof": "o", "reserved": "s", "map": "p"}

// The chapter's forms.
var (
	aName     = one("merospn")
	aNumber   = one("0")
	numbered  = behind(aName, one("="), aNumber, one(";"))
	anyField  = behind(aName, numbered)
	field     = behind(one("mepn"), numbered)
	repeated  = behind(one("r"), anyField)
	pairs     = behind(one("p"), one("<"), aName, one(","), aName, one(">"), numbered)
	oneof     = behind(one("o"), aName, one("{"), many(anyField), one("}"))
	reserved  = behind(one("s"), aNumber, many(behind(one(","), aNumber)), one(";"))
	item      = either(field, repeated, pairs, oneof, reserved)
	message   = behind(one("m"), aName, one("{"), many(item), one("}"))
	enum      = behind(one("e"), aName, one("{"), many(numbered), one("}"))
	file      = many(either(message, enum))
	wholeFile = regexp.MustCompile("^" + file.whole + "$")
	begunFile = regexp.MustCompile("^" + file.begun + "$")
	eachThing = regexp.MustCompile(either(message, enum).whole)
	eachItem  = regexp.MustCompile(item.whole)
	eachField = regexp.MustCompile(anyField.whole)
	eachValue = regexp.MustCompile(numbered.whole)
)

// part is tokens, and a byte for each.
type part struct {
	toks []api.Tok
	code string
}

// partOf is all tokens of a text.
func partOf(toks []api.Tok) part {
	var code strings.Builder
	for _, tok := range toks {
		switch {
		case tok.Kind == api.Num:
			code.WriteString("0")
		case tok.Kind == api.Str:
			code.WriteString("q")
		case tok.Kind == api.Sign:
			code.WriteString(tok.Text)
		case bytesOfNames[tok.Text] != "":
			code.WriteString(bytesOfNames[tok.Text])
		default:
			code.WriteString("n")
		}
	}
	return part{toks, code.String()}
}

// cut is a part of a part.
func (p part) cut(from, upto int) part { return part{p.toks[from:upto], p.code[from:upto]} }

// each are all parts that match a pattern.
func (p part) each(r *regexp.Regexp) []part {
	var l []part
	for _, at := range r.FindAllStringIndex(p.code, -1) {
		l = append(l, p.cut(at[0], at[1]))
	}
	return l
}

// inside is what stands in the brackets.
func (p part) inside() part { return p.cut(3, len(p.code)-1) }

// wantField is the field whose last five tokens these are: its name behind, and a type ahead of it.
func (p part) wantField() api.FieldSyn {
	last := p.toks[len(p.toks)-4:]
	f := api.FieldSyn{Name: last[0].Text, No: last[2].N, At: p.toks[0].At}
	switch {
	case p.code[1] == '<':
		f.Key, f.Type = p.toks[2].Text, p.toks[4].Text
	case len(p.code) == 6:
		f.Rep, f.Type = true, p.toks[1].Text
	default:
		f.Type = p.toks[0].Text
	}
	return f
}

// addItem is a message with one more item.
func (p part) addItem(m api.MsgSyn) api.MsgSyn {
	switch p.code[0] {
	case 'o':
		m.Ones = append(m.Ones, p.toks[1].Text)
		for _, f := range p.inside().each(eachField) {
			syn := f.wantField()
			syn.One = len(m.Ones)
			m.F = append(m.F, syn)
		}
	case 's':
		for _, tok := range p.toks {
			if tok.Kind == api.Num {
				m.Res = append(m.Res, tok.N)
			}
		}
	default:
		m.F = append(m.F, p.wantField())
	}
	return m
}

// wantFile is the file of tokens that are one.
func wantFile(all part) api.File {
	var f api.File
	for _, p := range all.each(eachThing) {
		if p.code[0] == 'm' {
			m := api.MsgSyn{Name: p.toks[1].Text, At: p.toks[0].At}
			for _, i := range p.inside().each(eachItem) {
				m = i.addItem(m)
			}
			f.M = append(f.M, m)
			continue
		}
		e := api.EnumSyn{Name: p.toks[1].Text, At: p.toks[0].At}
		for _, v := range p.inside().each(eachValue) {
			e.V = append(e.V, api.ValSyn{Name: v.toks[0].Text, N: v.toks[2].N, At: v.toks[0].At})
		}
		f.E = append(f.E, e)
	}
	return f
}

// wantParsed is what P7.1 asks.
func wantParsed(s string) (api.File, int, api.Errno) {
	toks, at, err := token.All(s)
	if err != api.OK {
		return api.File{}, at, err
	}
	all := partOf(toks)
	if wholeFile.MatchString(all.code) {
		return wantFile(all), len(s), api.OK
	}
	for i, tok := range toks {
		if !begunFile.MatchString(all.code[:i+1]) {
			return api.File{}, tok.At, api.ErrForm
		}
	}
	return api.File{}, len(s), api.ErrForm
}

// wantLine is what a field's line has behind its blanks.
func wantLine(f api.FieldSyn) string {
	if f.Key != "" {
		return fmt.Sprintf("map<%s, %s> %s = %d;\n", f.Key, f.Type, f.Name, f.No)
	}
	if f.Rep {
		return fmt.Sprintf("repeated %s %s = %d;\n", f.Type, f.Name, f.No)
	}
	return fmt.Sprintf("%s %s = %d;\n", f.Type, f.Name, f.No)
}

// wantMessage is what P7.2 asks of a message.
func wantMessage(m api.MsgSyn) string {
	out := "message " + m.Name + " {\n"
	begun := map[int]bool{}
	for _, f := range m.F {
		if f.One < 1 || f.One > len(m.Ones) {
			out += "  " + wantLine(f)
			continue
		}
		if begun[f.One] {
			continue
		}
		begun[f.One] = true
		out += "  oneof " + m.Ones[f.One-1] + " {\n"
		for _, g := range m.F {
			if g.One == f.One {
				out += "    " + wantLine(g)
			}
		}
		out += "  }\n"
	}
	if len(m.Res) > 0 {
		numbers := strings.ReplaceAll(strings.Trim(fmt.Sprint(m.Res), "[]"), " ", ", ")
		out += "  reserved " + numbers + ";\n"
	}
	return out + "}\n"
}

// wantPrinted is what P7.2 asks.
func wantPrinted(f api.File) string {
	out := ""
	for _, m := range f.M {
		out += wantMessage(m)
	}
	for _, e := range f.E {
		out += "enum " + e.Name + " {\n"
		for _, v := range e.V {
			out += fmt.Sprintf("  %s = %d;\n", v.Name, v.N)
		}
		out += "}\n"
	}
	return out
}
