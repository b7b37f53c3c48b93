package datum_test

import (
	"reflect"
	"slices"
	"strings"
	"testing"

	"bezel/api"
	"bezel/datum"
	"bezel/lex"
)

// leaf is a datum that is no list, written short.
func leaf(kind int, text string) api.Datum { return api.Datum{Kind: kind, Text: text} }

func sym(text string) api.Datum { return leaf(api.Sym, text) }

func num(text string) api.Datum { return leaf(api.Num, text) }

// list is made here without Row, which is under test.
func list(l ...api.Datum) api.Datum { return api.Datum{Kind: api.List, List: l} }

func quoted(d api.Datum) api.Datum { return list(sym("quote"), d) }

// nested is d within so many lists of one element.
func nested(d api.Datum, lists int) api.Datum {
	for range lists {
		d = list(d)
	}
	return d
}

// tame makes a nil list of an empty one, so that reflect.DeepEqual can't tell them apart (R2).
func tame(d api.Datum) api.Datum {
	if len(d.List) == 0 {
		d.List = nil
		return d
	}
	l := make([]api.Datum, len(d.List))
	for i, x := range d.List {
		l[i] = tame(x)
	}
	d.List = l
	return d
}

// equal compares data without Same, which is under test.
func equal(a, b []api.Datum) bool {
	return reflect.DeepEqual(tame(list(a...)), tame(list(b...)))
}

// reads fails unless Read answers just these data.
func reads(t *testing.T, s string, want ...api.Datum) {
	t.Helper()
	got, at, code := datum.Read(s)
	if code != api.OK || at != 0 || !equal(got, want) {
		t.Errorf("%q: %v, %d, %d, not %v", s, got, at, code, want)
	}
}

// fails fails unless Read answers just that error at that offset.
func fails(t *testing.T, s string, at int, code api.Errno) {
	t.Helper()
	l, gotAt, gotCode := datum.Read(s)
	if len(l) != 0 || gotAt != at || gotCode != code {
		t.Errorf("%q: %v, %d, %d, not error %d at %d", s, l, gotAt, gotCode, code, at)
	}
}

// P3.1: data that are no lists have the texts of their tokens.
func TestLeaves(t *testing.T) {
	reads(t, "")
	reads(t, " \t\r\n; a (\n;)")
	for _, s := range []string{"a", "define", "quote", "-", "--1", "1+", "+1", "1.0", "int?", "...", "->"} {
		reads(t, s, sym(s))
	}
	reads(t, "#t", leaf(api.Bool, "#t"))
	reads(t, "#f", leaf(api.Bool, "#f"))
	for _, x := range []struct{ s, value string }{{`""`, ""}, {`"a b"`, "a b"}, {`"007"`, "007"}, {`"\"\\\n"`, "\"\\\n"}, {`"("`, "("}, {`"'"`, "'"}} {
		reads(t, x.s, leaf(api.Str, x.value))
	}
	reads(t, "a 1\t\"b\"\n#f;c\nd", sym("a"), num("1"), leaf(api.Str, "b"), leaf(api.Bool, "#f"), sym("d"))
	reads(t, `a"b"#t`, sym("a"), leaf(api.Str, "b"), leaf(api.Bool, "#t"))
}

// P3.1: numbers lose their leading zeros, and a 0 its minus sign.
func TestNumbers(t *testing.T) {
	for _, x := range []struct{ s, text string }{
		{"0", "0"}, {"-0", "0"}, {"00", "0"}, {"-00", "0"}, {"0000000", "0"}, {"-0000000", "0"},
		{"7", "7"}, {"-7", "-7"}, {"007", "7"}, {"-007", "-7"}, {"01", "1"}, {"-01", "-1"},
		{"10", "10"}, {"-10", "-10"}, {"0100", "100"}, {"-0100", "-100"}, {"00900", "900"}, {"1000000", "1000000"}, {"-1001", "-1001"},
	} {
		reads(t, x.s, num(x.text))
		reads(t, "("+x.s+")", list(num(x.text)))
		reads(t, "'"+x.s, quoted(num(x.text)))
		reads(t, x.s+" "+x.s, num(x.text), num(x.text))
	}
	reads(t, "- 007 -1-", sym("-"), num("7"), sym("-1-"))
}

// P3.1: a number has at most 200 digits as it is written.
func TestMostDigits(t *testing.T) {
	zeros, nines := strings.Repeat("0", 200), strings.Repeat("9", 200)
	reads(t, nines, num(nines))
	reads(t, "-"+nines, num("-"+nines))
	reads(t, zeros, num("0"))
	reads(t, "-"+zeros, num("0"))
	reads(t, zeros[1:]+"7", num("7"))
	reads(t, "-"+zeros[1:]+"7", num("-7"))
	reads(t, "0"+nines[1:], num(nines[1:]))
	for _, s := range []string{nines + "9", zeros + "0", zeros + "1", "0" + nines, strings.Repeat("1", 1<<16)} {
		fails(t, s, 0, api.ErrMany)
		fails(t, "-"+s, 0, api.ErrMany)
		fails(t, "(a '"+s+" )", 4, api.ErrMany)
		fails(t, "a -"+s+" ) (", 2, api.ErrMany)
		reads(t, "x"+s, sym("x"+s))
		reads(t, `"`+s+`"`, leaf(api.Str, s))
	}
}

// P3.1: the tokens between an Open and its Close are a list; a Quote and its datum are a list too.
func TestLists(t *testing.T) {
	reads(t, "'(a 007)", list(sym("quote"), list(sym("a"), num("7"))))
	reads(t, "()", list())
	reads(t, "( ;)\n )", list())
	reads(t, "(a)", list(sym("a")))
	reads(t, "(a b)(c)", list(sym("a"), sym("b")), list(sym("c")))
	reads(t, "(()(()))", list(list(), list(list())))
	reads(t, "(a (b 1) #t) x", list(sym("a"), list(sym("b"), num("1")), leaf(api.Bool, "#t")), sym("x"))
	reads(t, `("(" ")")`, list(leaf(api.Str, "("), leaf(api.Str, ")")))
	reads(t, "'a", quoted(sym("a")))
	reads(t, "' ;c\n a", quoted(sym("a")))
	reads(t, "'()", quoted(list()))
	reads(t, "''a", quoted(quoted(sym("a"))))
	reads(t, "'''()", quoted(quoted(quoted(list()))))
	reads(t, "'a b", quoted(sym("a")), sym("b"))
	reads(t, "'a'b", quoted(sym("a")), quoted(sym("b")))
	reads(t, "('a b)", list(quoted(sym("a")), sym("b")))
	reads(t, "(a 'b)", list(sym("a"), quoted(sym("b"))))
	reads(t, "'('a)", quoted(list(quoted(sym("a")))))
	reads(t, "(''a b)c", list(quoted(quoted(sym("a"))), sym("b")), sym("c"))
	reads(t, "'\"s\" '#f", quoted(leaf(api.Str, "s")), quoted(leaf(api.Bool, "#f")))
	reads(t, "(quote a)", quoted(sym("a")))
	reads(t, "'quote", quoted(sym("quote")))
	reads(t, "(quote)", list(sym("quote")))
}

// P3.1: 60 lists may stand within each other, 61 may not; the list of a Quote is one of them.
func TestMostDepth(t *testing.T) {
	opens := func(n int) string { return strings.Repeat("(", n) }
	closes := func(n int) string { return strings.Repeat(")", n) }
	quotes := func(n int) string { return strings.Repeat("'", n) }
	reads(t, opens(60)+closes(60), nested(list(), 59))
	reads(t, opens(60)+"a"+closes(60), nested(sym("a"), 60))
	reads(t, opens(59)+"'a"+closes(59), nested(quoted(sym("a")), 59))
	reads(t, opens(58)+"'()"+closes(58), nested(quoted(list()), 58))
	deep := sym("a")
	for range 60 {
		deep = quoted(deep)
	}
	reads(t, quotes(60)+"a", deep)
	reads(t, quotes(60)+"a "+quotes(60)+"a", deep, deep)
	fails(t, opens(61)+closes(61), 60, api.ErrMany)
	fails(t, opens(61), 60, api.ErrMany)
	fails(t, opens(60)+"'a"+closes(60), 60, api.ErrMany)
	fails(t, quotes(61)+"a", 60, api.ErrMany)
	fails(t, quotes(61), 60, api.ErrMany)
	fails(t, quotes(60)+"()", 60, api.ErrMany)
	fails(t, opens(59)+"'()"+closes(59), 60, api.ErrMany)
	fails(t, opens(59)+"''a"+closes(59), 60, api.ErrMany)
	fails(t, " a "+opens(60)+" b ( )", 66, api.ErrMany)
	fails(t, opens(1<<16), 60, api.ErrMany)
	fails(t, quotes(1<<16), 60, api.ErrMany)
}

// P3.1: a list that is complete is no longer around what follows, nor is the list of a Quote.
func TestDepthBesideLists(t *testing.T) {
	in59 := func(s string) string { return strings.Repeat("(", 59) + s + strings.Repeat(")", 59) }
	in60 := func(s string) string { return strings.Repeat("(", 60) + s + strings.Repeat(")", 60) }
	reads(t, in60("")+in60("")+in60("b"), nested(list(), 59), nested(list(), 59), nested(sym("b"), 60))
	reads(t, in59("()()()"), nested(list(list(), list(), list()), 58))
	reads(t, in59("'a (b) 'c"), nested(list(quoted(sym("a")), list(sym("b")), quoted(sym("c"))), 58))
	reads(t, in59("'a 'b"), nested(list(quoted(sym("a")), quoted(sym("b"))), 58))
	fails(t, in59("'a ('b)"), 63, api.ErrMany)
	fails(t, in59("() (a ())"), 65, api.ErrMany)
	fails(t, in59("'a ')"), 63, api.ErrForm)
}

// P3.1: a Close must match an Open, and must not stand directly behind a Quote.
func TestWrongClose(t *testing.T) {
	for _, x := range []struct {
		s  string
		at int
	}{
		{")", 0}, {" ) ", 1}, {"a)", 1}, {"())", 2}, {"(a) b )", 6}, {"'a)", 2}, {"'())", 3}, {"))", 0}, {")(", 0}, {";(\n)", 3},
		{"')", 1}, {"')a", 1}, {"'  )", 3}, {"';c\n)", 4}, {"('))", 2}, {"(a ')", 4}, {"'')", 2}, {"'a')", 3}, {"((' )", 4},
	} {
		fails(t, x.s, x.at, api.ErrForm)
	}
	reads(t, "(' a)", list(quoted(sym("a"))))
}

// P3.1: what is not complete at the end of the text is an error at its length, behind blanks and comments.
func TestNotComplete(t *testing.T) {
	for _, s := range []string{"(", "(a", "((a)", "(a (b)", "(()", "'", "''", "(a '", "('a", "a '", "a (", "() '(", "'(", "'((a)", "'a '", "('a (b) "} {
		for _, end := range []string{"", " ", "\n\n", " ; )", ";)\n", "\t;'a\n "} {
			fails(t, s+end, len(s+end), api.ErrShort)
		}
	}
}

// P3.1: an error of the tokens comes ahead of all errors of the data, wherever it stands.
func TestErrorOfLex(t *testing.T) {
	many := strings.Repeat("1", 201)
	for _, x := range []struct {
		s    string
		at   int
		code api.Errno
	}{
		{"[", 0, api.ErrForm},
		{"(a #x)", 3, api.ErrForm},
		{`(a "b)`, 3, api.ErrShort},
		{") [", 2, api.ErrForm},
		{"') \"\\a\"", 4, api.ErrForm},
		{`) "a`, 2, api.ErrShort},
		{"( {", 2, api.ErrForm},
		{"' #", 2, api.ErrForm},
		{many + " [", 202, api.ErrForm},
		{many + ` "`, 202, api.ErrShort},
		{strings.Repeat("(", 61) + "|", 61, api.ErrForm},
		{"[ )", 0, api.ErrForm},
		{"\"a\n) '", 2, api.ErrForm},
	} {
		fails(t, x.s, x.at, x.code)
	}
}

// P3.1: among the errors of the data the first one counts.
func TestFirstError(t *testing.T) {
	many := strings.Repeat("1", 201)
	deep := strings.Repeat("(", 60)
	fails(t, ") "+many, 0, api.ErrForm)
	fails(t, many+" )", 0, api.ErrMany)
	fails(t, "(a "+many, 3, api.ErrMany)
	fails(t, "'"+many, 1, api.ErrMany)
	fails(t, "') (", 1, api.ErrForm)
	fails(t, "() ) (", 3, api.ErrForm)
	fails(t, deep+many+"(", 60, api.ErrMany)
	fails(t, deep+"("+many, 60, api.ErrMany)
	fails(t, deep+"')", 60, api.ErrMany)
	fails(t, deep[1:]+"')(", 60, api.ErrForm)
	fails(t, deep+strings.Repeat(")", 61)+"'", 120, api.ErrForm)
	fails(t, deep+strings.Repeat(")", 59), 119, api.ErrShort)
}

// R3: no two lists of an answer share memory, and an answer shares none with a later one.
func TestReadSharesNothing(t *testing.T) {
	const s = "(a b) (c (d e) 'f) 'g"
	first, _, _ := datum.Read(s)
	var spoil func(l []api.Datum)
	spoil = func(l []api.Datum) {
		for i := range l {
			spoil(l[i].List)
		}
		_ = append(l, sym("spoilt"))
	}
	spoil(first)
	want := []api.Datum{list(sym("a"), sym("b")), list(sym("c"), list(sym("d"), sym("e")), quoted(sym("f"))), quoted(sym("g"))}
	if !equal(first, want) {
		t.Error(first)
	}
	first[1].List[1].List[0] = sym("changed")
	first[2].List[0] = sym("changed")
	reads(t, s, want...)
}

// rightData are valid data with their texts.
func rightData() map[string]api.Datum {
	nines := strings.Repeat("9", 200)
	return map[string]api.Datum{
		"a": sym("a"), "-": sym("-"), "quote": sym("quote"), "-1a": sym("-1a"), "1+": sym("1+"), "...": sym("..."),
		"0": num("0"), "7": num("7"), "-7": num("-7"), "10": num("10"), "-100": num("-100"), nines: num(nines), "-" + nines: num("-" + nines),
		"#t": leaf(api.Bool, "#t"), "#f": leaf(api.Bool, "#f"),
		`""`: leaf(api.Str, ""), `"a b"`: leaf(api.Str, "a b"), `"a\n\"\\n"`: leaf(api.Str, "a\n\"\\n"), `"007"`: leaf(api.Str, "007"),
		"()": list(), "(())": list(list()), "(() a)": list(list(), sym("a")), "(a b)": list(sym("a"), sym("b")),
		"(quote a)": quoted(sym("a")), "(quote (quote ()))": quoted(quoted(list())), "(quote)": list(sym("quote")),
		`(f (g -1 "x y") #f)`:                                   list(sym("f"), list(sym("g"), num("-1"), leaf(api.Str, "x y")), leaf(api.Bool, "#f")),
		"(define (f x) (+ x 1))":                                list(sym("define"), list(sym("f"), sym("x")), list(sym("+"), sym("x"), num("1"))),
		strings.Repeat("(", 60) + strings.Repeat(")", 60):       nested(list(), 59),
		strings.Repeat("(", 60) + "a" + strings.Repeat(")", 60): nested(sym("a"), 60),
	}
}

// P3.2: valid data and their texts.
func TestPrint(t *testing.T) {
	for s, d := range rightData() {
		if !datum.Right(d) {
			t.Errorf("%v is right", d)
		}
		if got, code := datum.Print(d); got != s || code != api.OK {
			t.Errorf("%v: %q, %d, not %q", d, got, code, s)
		}
	}
	withEmptyList := api.Datum{Kind: api.Sym, Text: "a", List: []api.Datum{}}
	if s, code := datum.Print(withEmptyList); s != "a" || code != api.OK || !datum.Right(withEmptyList) {
		t.Error("an empty list is none", s, code)
	}
	emptyList := api.Datum{Kind: api.List, List: []api.Datum{}}
	if s, code := datum.Print(emptyList); s != "()" || code != api.OK || !datum.Right(emptyList) {
		t.Error("an empty list", s, code)
	}
}

// wrongData are data that are not valid.
func wrongData() []api.Datum {
	wrong := []api.Datum{{}}
	for _, kind := range []int{-1 << 63, -4, -3, -1, 0, 6, 7, 8, 1<<63 - 4, 1<<63 - 1} {
		for _, text := range []string{"", "a", "1", "#t", "(", ")", "'"} {
			wrong = append(wrong, leaf(kind, text), api.Datum{Kind: kind, Text: text, List: []api.Datum{sym("a")}})
		}
	}
	texts := map[int][]string{
		api.Sym:  {"", "1", "-1", "007", "a b", " a", "a ", "a;", "(", ")", "'", "'a", "#t", `"a"`, "a\x00", "\xc3\xa9", "[", "()"},
		api.Num:  {"", "-", "+1", "a", "1 ", " 1", "1.0", "1 2", "--1", "-0", "00", "-00", "01", "007", "-007", "-01", "#t", `"1"`, strings.Repeat("0", 200), strings.Repeat("9", 201), "-" + strings.Repeat("9", 201)},
		api.Str:  {"\t", "a\r", "\x00", "\x1f", "\x7f", "\x80", "\xc3\xa9"},
		api.Bool: {"", "#", "#x", "#tt", "t", "true", "#T", " #t", "#t ", "1", "()"},
		api.List: {"a", " ", "()", "0"},
	}
	for kind, l := range texts {
		for _, text := range l {
			wrong = append(wrong, leaf(kind, text))
		}
	}
	for kind, text := range map[int]string{api.Sym: "a", api.Num: "1", api.Str: "", api.Bool: "#t"} {
		wrong = append(wrong, api.Datum{Kind: kind, Text: text, List: []api.Datum{{Kind: api.List}}}, api.Datum{Kind: kind, Text: text, List: []api.Datum{sym("b")}})
	}
	wrong = append(wrong, api.Datum{Kind: api.List, Text: "a", List: []api.Datum{sym("a")}})
	return append(wrong, nested(list(), 60), nested(sym("a"), 61), nested(quoted(sym("a")), 60), nested(sym("a"), 1<<16))
}

// P3.2: a datum that is not valid is an error wherever it stands, and there is no text beside it.
func TestPrintOfWrongData(t *testing.T) {
	good := sym("a")
	for _, x := range wrongData() {
		for i, d := range []api.Datum{x, list(x), list(good, x), list(x, good), list(list(good), list(good, x)), quoted(x), list(x, x), nested(x, 30)} {
			if s, code := datum.Print(d); s != "" || code != api.ErrArg || datum.Right(d) {
				t.Errorf("%.100v (%d): %q, %d", x, i, s, code)
			}
		}
	}
	if d := nested(leaf(9, "a"), 59); datum.Right(d) {
		t.Error("wrong within many lists")
	}
	if d := list(nested(list(), 58), nested(list(), 58), nested(list(), 59)); datum.Right(d) {
		t.Error("the last of three is too deep")
	}
}

// P0: a list that contains itself is too deep, and no call goes round in it for ever.
func TestListInItself(t *testing.T) {
	l := []api.Datum{sym("a"), {Kind: api.List}, {Kind: api.List}}
	l[1].List, l[2].List = l, l
	if s, code := datum.Print(l[1]); s != "" || code != api.ErrArg || datum.Right(l[1]) {
		t.Error(s, code)
	}
	other := []api.Datum{sym("a"), {Kind: api.List}, {Kind: api.List}}
	other[1].List, other[2].List = other, other
	datum.Same(l[1], l[1]) // what they answer is not promised, only that they answer
	datum.Same(l[1], other[2])
	if datum.Same(l[1], list(l[0])) {
		t.Error("lists of other lengths are the same")
	}
}

// P3.2: each byte as the text of a symbol and of a string.
func TestEachByte(t *testing.T) {
	for b := range 256 {
		s := string([]byte{byte(b)})
		for _, kind := range []struct{ datum, token int }{{api.Sym, lex.Sym}, {api.Num, lex.Num}, {api.Str, lex.Str}, {api.Bool, lex.Bool}} {
			want, wantCode := lex.Text([]lex.Token{{Kind: kind.token, Text: s}})
			got, code := datum.Print(leaf(kind.datum, s))
			if got != want || code != wantCode || datum.Right(leaf(kind.datum, s)) != (code == api.OK) {
				t.Errorf("kind %d, %q: %q, %d, not %q, %d", kind.datum, s, got, code, want, wantCode)
			}
		}
	}
}

// P3.2: Same holds all parts against each other, of any data.
func TestSame(t *testing.T) {
	some := []api.Datum{
		{}, sym(""), sym("a"), sym("b"), sym("1"), num("1"), leaf(api.Str, "1"), leaf(api.Str, ""), leaf(9, "a"), leaf(-1, "a"), leaf(api.Bool, "#t"), leaf(api.Bool, "#f"),
		list(), list(sym("a")), list(sym("b")), list(num("1")), list(sym("1")), list(sym("a"), sym("a")), list(sym("a"), sym("b")), list(sym("b"), sym("a")), list(list()), list(list(), list()), list(list(sym("a"))), list(list(sym("b"))), list(list(sym("a")), sym("a")), list(sym("a"), list(sym("a"))),
		quoted(sym("a")), quoted(sym("b")), num("-1"), num("01"), num("0"), num("-0"),
		{Kind: api.Sym, Text: "a", List: []api.Datum{sym("a")}}, {Kind: api.Sym, Text: "a", List: []api.Datum{sym("b")}}, {Kind: api.Sym, Text: "a", List: []api.Datum{{}}}, {Kind: api.List, Text: "a"}, {Kind: api.List, Text: "b"}, {List: []api.Datum{sym("a")}},
		nested(sym("a"), 60), nested(sym("b"), 60), nested(sym("a"), 59), nested(list(), 60),
	}
	for i, a := range some {
		for j, b := range some {
			if got := datum.Same(a, tame(b)); got != (i == j) {
				t.Errorf("%v, %v: %t", a, b, got)
			}
		}
	}
	if !datum.Same(api.Datum{Kind: api.List}, api.Datum{Kind: api.List, List: []api.Datum{}}) {
		t.Error("a nil list is an empty one")
	}
	if a, b := nested(sym("a"), 1<<16), nested(sym("a"), 1<<16); !datum.Same(a, b) || datum.Same(a, nested(sym("b"), 1<<16)) {
		t.Error("deep lists")
	}
}

// P3.2: Word and Row take what they are given, valid or not.
func TestWordAndRow(t *testing.T) {
	for _, s := range []string{"a", "quote", "", "1", "a b", " a\n", "#t", "\xff", "("} {
		if d := datum.Word(s); !equal([]api.Datum{d}, []api.Datum{sym(s)}) {
			t.Errorf("%q: %v", s, d)
		}
	}
	for _, l := range [][]api.Datum{nil, {}, {sym("a")}, {sym("a"), num("1"), list()}, {{}, leaf(9, "x")}, {num("007"), nested(sym("a"), 60)}} {
		if d := datum.Row(l...); d.Kind != api.List || d.Text != "" || !equal(d.List, l) {
			t.Errorf("%v: %v", l, d)
		}
	}
	if d := datum.Row(datum.Word("quote"), datum.Row()); !equal([]api.Datum{d}, []api.Datum{quoted(list())}) {
		t.Error(d)
	}
}

// R3: Row keeps nothing of the slice that it is given, and no call changes its arguments.
func TestNothingKept(t *testing.T) {
	room := []api.Datum{sym("a"), num("1"), sym("behind")}
	d := datum.Row(room[:2]...)
	room[0], room[1] = sym("x"), sym("y")
	if !equal(d.List, []api.Datum{sym("a"), num("1")}) {
		t.Error("changed with the argument:", d)
	}
	d.List[0] = sym("z")
	_ = append(d.List, sym("w"))
	if !equal(room, []api.Datum{sym("x"), sym("y"), sym("behind")}) {
		t.Error("the argument is changed:", room)
	}
	given := list(sym("a"), list(num("1"), leaf(9, "")), leaf(api.Str, "\n"))
	want := list(sym("a"), list(num("1"), leaf(9, "")), leaf(api.Str, "\n"))
	datum.Right(given)
	datum.Print(given)
	datum.Same(given, want)
	if !reflect.DeepEqual(given, want) {
		t.Error(given)
	}
}

// restores fails unless the data are read again as they were, each from its own text and all from one.
func restores(t *testing.T, data ...api.Datum) {
	t.Helper()
	var texts []string
	for _, d := range data {
		s, code := datum.Print(d)
		back, at, again := datum.Read(s)
		if code != api.OK || again != api.OK || at != 0 || !equal(back, []api.Datum{d}) || !datum.Same(back[0], d) {
			t.Fatalf("%v is printed as %q (%d) and read as %v (%d)", d, s, code, back, again)
		}
		texts = append(texts, s)
	}
	all := strings.Join(texts, " ")
	if back, _, code := datum.Read(all); code != api.OK || !equal(back, data) {
		t.Fatalf("%q is read as %v (%d)", all, back, code)
	}
}

// everyDatum are all data of at most depth lists within each other, of at most two elements each.
func everyDatum(depth int) []api.Datum {
	data := []api.Datum{sym("quote"), sym("-"), num("0"), num("-70"), leaf(api.Str, ""), leaf(api.Str, "(\n\"\\'"), leaf(api.Bool, "#f")}
	for range depth {
		lists := []api.Datum{list()}
		for _, a := range data {
			lists = append(lists, list(a))
			for _, b := range data {
				lists = append(lists, list(a, b))
			}
		}
		data = append(data[:7:7], lists...)
	}
	return data
}

// P3.3: each datum is read again as it was.
func TestPrintedAndRead(t *testing.T) {
	restores(t)
	restores(t, everyDatum(2)...)
	for s, d := range rightData() {
		restores(t, d)
		reads(t, s, d)
	}
	restores(t, nested(quoted(sym("a")), 59), nested(list(list(), sym("a"), list()), 58))
}

// plainReader reads tokens with a stack of open lists, apart from how the program does it.
type plainReader struct {
	lists  [][]api.Datum
	quotes []bool
}

// add puts a complete datum into the innermost list, and completes the lists of Quotes that waited for it.
func (p *plainReader) add(d api.Datum) {
	for {
		last := len(p.lists) - 1
		p.lists[last] = append(p.lists[last], d)
		if !p.quotes[last] {
			return
		}
		d = list(p.lists[last]...)
		p.lists, p.quotes = p.lists[:last], p.quotes[:last]
	}
}

func (p *plainReader) token(t lex.Token) api.Errno {
	last := len(p.lists) - 1
	switch t.Kind {
	case lex.Open, lex.Quote:
		if last == 60 {
			return api.ErrMany
		}
		p.quotes = append(p.quotes, t.Kind == lex.Quote)
		p.lists = append(p.lists, nil)
		if t.Kind == lex.Quote {
			p.lists[last+1] = []api.Datum{sym("quote")}
		}
	case lex.Close:
		if last == 0 || p.quotes[last] {
			return api.ErrForm
		}
		d := list(p.lists[last]...)
		p.lists, p.quotes = p.lists[:last], p.quotes[:last]
		p.add(d)
	case lex.Num:
		text := strings.TrimLeft(strings.TrimPrefix(t.Text, "-"), "0")
		if text == "" {
			text = "0"
		} else if t.Text[0] == '-' {
			text = "-" + text
		}
		p.add(num(text))
	default:
		p.add(leaf(map[int]int{lex.Sym: api.Sym, lex.Str: api.Str, lex.Bool: api.Bool}[t.Kind], t.Text))
	}
	return api.OK
}

func plainRead(s string) ([]api.Datum, int, api.Errno) {
	l, at, code := lex.Lex(s)
	if code != api.OK {
		return nil, at, code
	}
	p := plainReader{lists: [][]api.Datum{nil}, quotes: []bool{false}}
	for _, t := range l {
		if code := p.token(t); code != api.OK {
			return nil, t.At, code
		}
	}
	if len(p.lists) > 1 {
		return nil, len(s), api.ErrShort
	}
	return p.lists[0], 0, api.OK
}

// everyText calls f with every text of at most most of the parts.
func everyText(parts []string, most int, f func(string)) {
	f("")
	texts := []string{""}
	for range most {
		var longer []string
		for _, s := range texts {
			for _, part := range parts {
				longer = append(longer, s+part)
			}
		}
		for _, s := range longer {
			f(s)
		}
		texts = longer
	}
}

// P3.1, P3.3: every short text is read as the stack says, within no lists and within so many that a few more are too many; what is read is valid, and is read again from its own text.
func TestEveryShortText(t *testing.T) {
	check := func(s string) {
		got, at, code := datum.Read(s)
		want, wantAt, wantCode := plainRead(s)
		if at != wantAt || code != wantCode || !equal(got, want) {
			t.Fatalf("%q: %v, %d, %d, not %v, %d, %d", s, got, at, code, want, wantAt, wantCode)
		}
		if code == api.OK {
			restores(t, got...)
		}
	}
	everyText([]string{"(", ")", "'"}, 9, check)
	everyText([]string{"(", ")", "'", "a ", "-00", " "}, 6, check)
	everyText([]string{"(", ")", "'", "0", "[", "\"", "#t", ";", "\n"}, 5, check)
	opens := strings.Repeat("(", 58)
	everyText([]string{"(", ")", "'", "1 "}, 6, func(s string) {
		check(opens + s)
		check(opens + s + strings.Repeat(")", 58))
	})
}

// P0: a long text ends.
func TestLong(t *testing.T) {
	const many = 1 << 16
	for _, part := range []string{"a ", "() ", "'1 ", "(a '(b) \"c\") "} {
		s := strings.Repeat(part, many)
		l, at, code := datum.Read(s)
		if len(l) != many || at != 0 || code != api.OK {
			t.Fatalf("%q: %d data, %d, %d", part, len(l), at, code)
		}
		row := datum.Row(l...)
		printed, code := datum.Print(row)
		if back, _, again := datum.Read(printed); code != api.OK || again != api.OK || !slices.EqualFunc(back, []api.Datum{row}, datum.Same) {
			t.Errorf("%q: %d, %d", part, code, again)
		}
	}
}
